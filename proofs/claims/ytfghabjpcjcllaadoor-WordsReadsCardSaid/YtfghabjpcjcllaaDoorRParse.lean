/- The document's Parse: lines as a plan. -/
import Derived.Test.YtfghabjpcjcllaaDoorRRead
import Derived.Test.YtfghabjpcjcllaaDoorCAdd
import Derived.Test.YtfghabjpcjcllaaDoorCParseW
namespace Go.Proofs.YtfghabjpcjcllaaDoor
open Go.RowKit
set_option linter.unusedVariables false

theorem low_texts (ad : Addr) {n b c : Nat} (hb : b ≤ c) (w : World) : (Instr.slice 53 (.slice (some ad) n c) none (some (.int .i64 b)) none).run Tryd.prog w = .ok (.slice (some ad) b c) w := by
  rw [run_slice_h (ht := und_texts) (h0 := by omega) (h2 := by omega), size_text]
  have e : ad.add 0 = ad := addr_zero ad
  simp [Result.andThen, sliced, e]
theorem gives_no {w w' : World} {r : List (List Opr) × Nat} {n : Nat} (h : r = ([], n)) (t : Turn (fun _ => False) w w') : GivesL w r (.returned (.tuple #[.slice none 0 0, .int .i64 n])) w' := by
  subst h
  exact gives_l (sl := ⟨none, 0, 0⟩) t rfl (rplan_nil _)
theorem PG.mine2 {w : World} {eC eO eL : TypeId} {base : Nat} {s : Sl} {V : List Sl} {p : List (List Opr)} (h : PG w eC eO eL base s V p) {b : Nat} (hb : Mine s V b) : base ≤ b ∧ ∃ cur e, (e = eL ∨ e = eO) ∧ w.heap[b]? = some (.cells cur e (0, 0)) := by
  rcases hb with hb | ⟨i, x, hx, hb⟩
  · obtain ⟨cur, hc⟩ := own_type h.own b hb
    exact ⟨(h.own.lt b hb).1, cur, eL, .inl rfl, hc⟩
  · have hi : i < p.length := by rw [← h.many]; exact (List.getElem?_eq_some_iff.1 hx).1
    have hr := h.rows i x _ hx (List.getElem?_eq_getElem hi)
    obtain ⟨cur, hc⟩ := hr.type b hb
    exact ⟨(hr.low b hb).1, cur, eO, .inr rfl, hc⟩
theorem own_beside {w w' : World} {base tb n : Nat} {s : Sl} {V : List Sl} {p : List (List Opr)} {v : Value} {L : List Value} (h : PG w 40 25 41 base s V p) (t : Turn (Mine s V) w w') (ho : w.ownsRow tb 9 1 v n L) : w'.ownsRow tb 9 1 v n L :=
  own_turn ho t fun k hk hm => by
    obtain ⟨_, cur, e, he, hc⟩ := h.mine2 hm
    obtain ⟨c2, hc2⟩ := own_type ho k hk
    rw [hc] at hc2
    have := Option.some.inj hc2
    simp at this
    rcases he with rfl | rfl <;> exact absurd this.2 (by decide)
theorem lines_last {s : Tx} {L : List Tx} {k : Nat} {z : Tx} (hL : splitT 10 s = L) (hn : L.length = k + 1) (hz : L[k]? = some z) : L.getLast? = some z := by
  rw [List.getLast?_eq_getElem?, hn]
  exact hz
theorem parse_ended {s : Tx} {L : List Tx} {k : Nat} {z : Tx} (hL : splitT 10 s = L) (hn : L.length = k + 1) (hz : L[k]? = some z) (h : z = []) : parseT s = if k = 0 then ([], 1) else parseG true (L.take k) 0 [] := by
  have e : linesOf s = (L.take k, true) := by
    unfold linesOf
    rw [hL, lines_last hL hn hz, h, if_pos rfl, List.dropLast_eq_take, hn]
    rfl
  unfold parseT
  rw [e]
  have e2 : (L.take k = []) ↔ k = 0 := by
    rw [← List.length_eq_zero_iff, List.length_take, hn]
    omega
  simp only [e2]
theorem parse_open {s : Tx} {L : List Tx} {k n : Nat} {z : Tx} (hL : splitT 10 s = L) (hn : L.length = k + 1) (hm : L.length = n) (hz : L[k]? = some z) (h : z ≠ []) : parseT s = if n = 0 then ([], 1) else parseG false (L.take n) 0 [] := by
  have e : linesOf s = (L, false) := by
    unfold linesOf
    rw [hL, lines_last hL hn hz, if_neg]
    intro e
    exact h (Option.some.inj e)
  unfold parseT
  rw [e, List.take_of_length_le (by omega)]
  have e2 : (L = []) ↔ n = 0 := by rw [← List.length_eq_zero_iff, hm]
  simp only [e2]

/-- The next line, told. -/
theorem parse_one {e : Bool} {x : Tx} {r : List Tx} {i j : Nat} {p : List (List Opr)} {R : List (List Opr) × Nat} (h : parseG e (x :: r) i p = R) (hi : i + 1 = j) (hw : r ≠ [] ∨ e = true) :
    (if x = wGo ∧ p.length < 8 then parseG e r j (p ++ [[]]) else match readT x with | none => ([], j) | some o => if p = [] ∨ 16 ≤ lastLen p then ([], j) else parseG e r j (more p o)) = R := by
  subst hi
  rw [parseG_cons, if_neg] at h
  · exact h
  · rintro ⟨h1, h2⟩
    rcases hw with hw | hw
    · exact hw h1
    · rw [hw] at h2; cases h2
set_option maxRecDepth 100000 in
set_option maxHeartbeats 8000000 in
theorem rparse_any (s : Tx) (w : World) (hl : s.length ≤ 100000) : Calls Tryd.prog 15 #[.string (bs s)] w (GivesL w (parseT s)) := by
  have CS := Lib.hid (fun w => rsplit_any s 10 10 s.length w rfl rfl hl)
  have hHF : ∀ x ∈ splitT 10 s, x.length ≤ 100000 := splitG_short 10 s [] 100000 (by simpa using hl)
  have hmany := splitG_many 10 s []
  have hne : splitT 10 s ≠ [] := splitG_ne 10 s []
  obtain ⟨W, hW⟩ : ∃ x, splitT 10 s = x := ⟨_, rfl⟩
  obtain ⟨k, hk⟩ : ∃ k, W.length = k + 1 := ⟨W.length - 1, by
    rw [hW] at hne
    have := List.length_pos_iff.2 hne
    omega⟩
  have hk5 : k ≤ 100000 := by
    have h : W.length ≤ s.length + 1 := by rw [← hW]; exact hmany
    omega
  obtain ⟨z, hz⟩ : ∃ z, W[k]? = some z := ⟨_, List.getElem?_eq_getElem (by omega)⟩
  have HPE := Lib.hid (fun h : z = [] => parse_ended hW hk hz h)
  have HPO := Lib.hid (fun (n : Nat) (hm : W.length = n) (h : z ≠ []) => parse_open hW hk hm hz h)
  obtain ⟨FIN, hFIN⟩ : ∃ r, parseT s = r := ⟨_, rfl⟩
  rw [hFIN] at HPE HPO ⊢
  rw [hW] at CS hHF
  have HF := Lib.hid hHF
  have HK0 := Lib.hid hk
  have HZ := Lib.hid hz
  obtain ⟨T, hT⟩ : ∃ x, bs s = x := ⟨_, rfl⟩
  rw [hT] at CS ⊢
  obtain ⟨eb, heb⟩ : ∃ b, decide (z = []) = b := ⟨_, rfl⟩
  have hq := lit_text z [] heb
  obtain ⟨SZ, hSZ⟩ : ∃ x, bs z = x := ⟨_, rfl⟩
  rw [hSZ] at hq
  have HSZ := Lib.hid hSZ
  unfold GivesT at CS
  have T0 := Lib.hid ((Turn.refl (fun _ => False) w).alloc (.cells #[] 41))
  have P0 : Hid (PG (w.alloc (.cells #[] 41)) 40 25 41 w.heap.size ⟨some ⟨w.heap.size, 0, none⟩, 0, 0⟩ [] []) := Lib.hid (PG.made (heap_alloc_new w _) (Nat.le_refl _))
  clear hT hl hHF hne hmany hW hFIN hSZ hk hz
  go_enter Tryd.func15, Tryd.ntmps15
  go_upto_region 2 with fail
  generalize w.alloc (.cells #[] 41) = w1 at P0 T0 ⊢
  obtain ⟨g0, hg0⟩ : ∃ b, w.heap.size = b := ⟨_, rfl⟩
  have LOW : w.heap.size ≤ g0 := by omega
  have LOW2 : g0 ≤ w.heap.size := by omega
  rw [hg0] at P0 ⊢
  clear hg0
  go_wp2_with fail
  refine (CS.out _).mono ?_
  rintro e w2 ⟨bo, n, c, rfl, ho, hn, t2⟩
  have T2 := Lib.hid (T0.out.trans t2)
  have P2 := Lib.hid (P0.out.new t2)
  obtain ⟨tb, htb⟩ : ∃ b, w1.heap.size = b := ⟨_, rfl⟩
  rw [htb] at ho
  obtain ⟨ad, had, hcz⟩ := (RTs.of_own ho).at HZ.out
  dsimp only at had
  subst had
  rw [HSZ.out] at hcz
  have OT2 := Lib.hid ho
  have HN := Lib.hid hn
  have hnk : n = k + 1 := by rw [← hn]; exact HK0.out
  have hI : (n : Int) - 1 = (k : Int) := by omega
  have hkn : k < n := by omega
  have hnk1 : n ≤ k + 1 := by omega
  have hkI : (k : Int) < (n : Int) := by omega
  have hkz : decide ((k : Int) < 0) = false := by rw [decide_eq_false_iff_not]; omega
  have hcap : k ≤ c := by
    have h1 := (RTs.of_own ho).ok.len
    have h2 := (RTs.of_own ho).ok.cap
    dsimp only at h1 h2
    omega
  clear ho hn t2 htb hnk
  go_upto_region 4 with fail
  cases eb
  · have HPX := Lib.hid (HPO.out n HN.out (of_decide_eq_false heb))
    clear heb
    go_upto_region 7 with fail
    clear hcz hq
    obtain ⟨RES, hRES⟩ : ∃ r, parseG false (W.take n) 0 [] = r := ⟨_, rfl⟩
    have hFIN := HPX.out
    rw [hRES] at hFIN
    have HFIN := Lib.hid hFIN
    have HRES := Lib.hid hRES
    clear hRES hFIN
    go_loopw [4, 30] (fun s4 s30 wr => ∃ (i : Nat) (p : List (List Opr)) (sl : Sl) (V : List Sl), s4 = sl.val ∧ s30 = .int .i64 i ∧ i ≤ n ∧ p.length ≤ 8 ∧ Hid (∀ l ∈ p, l.length ≤ 16) ∧ Hid (PG wr 40 25 41 g0 sl V p) ∧ Hid (Turn (fun _ => False) w wr) ∧ Hid (wr.ownsRow tb 9 1 (.slice (some ad) n c) n (flat encT W)) ∧ Hid (parseG false ((W.take n).drop i) i p = RES)) (fun _ s30 _ => n - (intOf s30).toNat)
    case atStart => exact ⟨0, [], ⟨some ⟨g0, 0, none⟩, 0, 0⟩, [], rfl, rfl, Nat.zero_le _, Nat.zero_le _, Lib.hid (fun m hm => by cases hm), P2, T2, OT2, Lib.hid (by rw [List.drop_zero]; exact HRES.out)⟩
    case round =>
      clear P2 T2 OT2
      obtain ⟨i, p, ⟨po, pl, pc⟩, V, rfl, rfl, hi, hp8, H16, P, T, OT, HG⟩ := hrel
      have hpl : pl = p.length := P.out.len
      have HPL := Lib.hid hpl
      have hpl8 : pl ≤ 8 := by omega
      clear hpl hp8
      unfold Sl.val
      dsimp only
      by_cases hlt : i < n
      · obtain ⟨x, hx⟩ : ∃ x, W[i]? = some x := ⟨_, List.getElem?_eq_getElem (by rw [HN.out]; omega)⟩
        obtain ⟨_, had, hcx⟩ := (RTs.of_own OT.out).at hx
        cases had
        have hxl := HF.out x (List.mem_of_getElem? hx)
        have CR := Lib.hid (fun w => rread_any x w hxl)
        obtain ⟨i1, hi1⟩ : ∃ j, i + 1 = j := ⟨_, rfl⟩
        have hI1 : (i : Int) + 1 = (i1 : Int) := by omega
        obtain ⟨rest, hrest⟩ : ∃ r, (W.take n).drop i1 = r := ⟨_, rfl⟩
        have hsplit : (W.take n).drop i = x :: rest := by
          have hxm : (W.take n)[i]? = some x := by rw [List.getElem?_take, if_pos hlt]; exact hx
          obtain ⟨hl, e⟩ := List.getElem?_eq_some_iff.1 hxm
          rw [List.drop_eq_getElem_cons hl, e, hi1, hrest]
        have HG1 := Lib.hid (show parseG false (x :: rest) i p = RES by rw [← hsplit]; exact HG.out)
        have HRL : Hid (rest.length = n - i1) := Lib.hid (by rw [← hrest, List.length_drop, List.length_take, HN.out]; omega)
        have HREST := Lib.hid hrest
        obtain ⟨X, hX⟩ : ∃ y, bs x = y := ⟨_, rfl⟩
        rw [hX] at hcx CR
        have HX0 := Lib.hid hX
        have hi1m : i1 ≤ n := by omega
        have HI := Lib.hid hi1
        clear hx hxl hi1 hrest hsplit hX HG
        rcases Nat.lt_or_ge (i + 1) n with hik | hik
        · have h0 : (i : Int) < (k : Int) := by omega
          have HWH : rest ≠ [] ∨ false = true := Or.inl (fun e => by have := HRL.out; rw [e] at this; simp at this; omega)
          have HG2 := Lib.hid (parse_one HG1.out HI.out HWH)
          clear HG1
          go_upto_region 10 with fail
          go_wp2_with fail
          refine (CR.out _).mono ?_
          rintro e w4 ⟨t4, ⟨kind, ch, nn, v, ⟨ro, rlen, rcap⟩, els⟩, ok, rfl, hok, hbo⟩
          have T4 := Lib.hid (T.out.trans t4)
          have P4 := Lib.hid (P.out.new t4)
          have OT4 := Lib.hid (own_turn OT.out t4 (fun _ _ => id))
          have HBO := Lib.hid hbo
          have HOKK := Lib.hid hok
          clear t4 hbo hcx hok
          unfold OpV.val Sl.val
          dsimp only
          go_upto_region 13 with fail
          have TA := Lib.hid ((Turn.refl (fun _ => False) w4).alloc (.cells #[.int .i64 kind, .int .i64 ch, .int .i64 nn, .int .i64 v, .slice ro rlen rcap, .bool els] 25))
          have D : Hid (Six (w4.alloc (.cells #[.int .i64 kind, .int .i64 ch, .int .i64 nn, .int .i64 v, .slice ro rlen rcap, .bool els] 25)) w4.heap.size kind ch nn v (.slice ro rlen rcap) els) := Lib.hid (blk_new w4 _ 25)
          obtain ⟨bx, hbx⟩ : ∃ b, w4.heap.size = b := ⟨_, rfl⟩
          rw [hbx] at D ⊢
          clear hbx
          generalize w4.alloc (.cells #[.int .i64 kind, .int .i64 ch, .int .i64 nn, .int .i64 v, .slice ro rlen rcap, .bool els] 25) = w5 at TA D ⊢
          have T5 := Lib.hid (T4.out.trans TA.out)
          have P5 := Lib.hid (P4.out.new TA.out)
          have OT5 := Lib.hid (own_turn OT4.out TA.out (fun _ _ => id))
          have BO5 : Hid (∀ q, readT x = some q → BOp w5 40 ⟨kind, ch, nn, v, ⟨ro, rlen, rcap⟩, els⟩ q) := Lib.hid (fun q hq => (HBO.out q hq).new TA.out)
          have hgb : g0 ≤ w5.heap.size := by have := T5.out.size; omega
          have TR := T5
          clear TA T4 P4 OT4 HBO T P OT
          have hcg0 := True.intro
          by_cases hgo : x = wGo
          · have hq := lit_text x wGo (b := true) (by rw [decide_eq_true_eq]; exact hgo)
            unfold wGo at hq
            rw [HX0.out] at hq
            have hrd : readT x = none := by rw [hgo]; exact readT_go
            rcases Nat.lt_or_ge pl 8 with hp8 | hp8
            · have HG3 : Hid (parseG false ((W.take n).drop i1) i1 (p ++ [[]]) = RES) := Lib.hid (by
                have h := HG2.out
                rw [if_pos ⟨hgo, by rw [← HPL.out]; exact hp8⟩] at h
                rw [HREST.out]
                exact h)
              clear hgo hrd hcg0
              go_upto_region 14 with fail
              have EB := Lib.hid (heap_alloc_new w5 (.cells #[] 25))
              have TB := Lib.hid ((Turn.refl (fun _ => False) w5).alloc (.cells #[] 25))
              have P6 := Lib.hid (P5.out.new TB.out)
              have OT6 := Lib.hid (own_turn OT5.out TB.out (fun _ _ => id))
              have T6 := Lib.hid (T5.out.trans TB.out)
              have HD : Hid (∀ (b i : Nat) (q : Sl), (⟨some ⟨w5.heap.size, 0, none⟩, 0, 0⟩ : Sl).val.ownBlock = some b → V[i]? = some q → q.val.ownBlock ≠ some b) := Lib.hid (fun b i q hb hq hqb => by
                have e : w5.heap.size = b := by simpa [Sl.val, Value.ownBlock] using hb
                have hi : i < p.length := by rw [← P5.out.many]; exact (List.getElem?_eq_some_iff.1 hq).1
                have := ((P5.out.rows i q _ hq (List.getElem?_eq_getElem hi)).low b hqb).2
                omega)
              have GO6 : Hid (GOps (w5.alloc (.cells #[] 25)) 40 25 g0 ⟨some ⟨w5.heap.size, 0, none⟩, 0, 0⟩ []) := Lib.hid (GOps.made EB.out hgb)
              obtain ⟨k1, hk1⟩ : ∃ n, pl + 1 = n := ⟨_, rfl⟩
              have HK1 := Lib.hid (show p.length + 1 = k1 by rw [← HPL.out]; exact hk1)
              have hk8 : k1 ≤ 8 := by omega
              have hgb6 : g0 ≤ (w5.alloc (.cells #[] 25)).heap.size := Nat.le_trans hgb TB.out.size
              have hsz : (w5.alloc (.cells #[] 25)).heap.size = w5.heap.size + 1 := by simp
              have HSZ := Lib.hid hsz
              clear hk1 hsz
              go_wp2_with (at_builtin; refine wpList_append_row (by decide) (by decide) Tryd.underlying22 info_ops rfl (by decide) rfl (.tmp 59) (.tmp 61) rfl ⟨po, pl, pc⟩ V p ⟨some ⟨w5.heap.size, 0, none⟩, 0, 0⟩ rfl rfl P6.out GO6.out HD.out (by rw [HSZ.out]; rfl) k1 HK1.out (by omega) hgb6 ?_; intro g gc w7 hg h7 t7)
              go_roundw
              case rel => exact ⟨i1, p ++ [[]], ⟨some ⟨g, 0, none⟩, k1, gc⟩, V ++ [⟨some ⟨w5.heap.size, 0, none⟩, 0, 0⟩], rfl, rfl, by omega, by rw [List.length_append]; show p.length + 1 ≤ 8; rw [HK1.out]; exact hk8, Lib.hid (fun m hm => by
                rcases List.mem_append.1 hm with h | h
                · exact H16.out m h
                · rw [List.mem_singleton] at h
                  subst h
                  exact Nat.zero_le _), h7, Lib.hid (T6.out.and t7.out (fun i hi hm => by have := P6.out.low i hm; omega)), Lib.hid (own_beside P6.out (t7.out.mono fun _ _ e => Or.inl e) OT6.out), HG3⟩
              case measure => simp [intOf]; omega
            · obtain rfl : pl = 8 := by omega
              have HNO : Hid (RES = ([], i1)) := Lib.hid (by
                have h := HG2.out
                rw [if_neg (by rintro ⟨_, h⟩; rw [← HPL.out] at h; omega), hrd] at h
                exact h.symm)
              have hok := HOKK.out
              rw [hrd] at hok
              replace hok : ok = false := hok
              subst hok
              clear hgo hrd hcg0
              go_wp2_with fail
              go_ret2
              exact gives_no (show FIN = _ from HFIN.out.trans ((if_neg (by omega)).trans HNO.out)) TR.out
          · have hq := lit_text x wGo (b := false) (by rw [decide_eq_false_iff_not]; exact hgo)
            unfold wGo at hq
            rw [HX0.out] at hq
            obtain ⟨RD, hRD⟩ : ∃ o, readT x = o := ⟨_, rfl⟩
            have HRD := Lib.hid hRD
            have hok := HOKK.out
            rw [hRD] at hok BO5
            have HG3 := Lib.hid (show (match readT x with | none => ([], i1) | some o => if p = [] ∨ 16 ≤ lastLen p then ([], i1) else parseG false rest i1 (more p o)) = RES by
              have h := HG2.out
              rw [if_neg (fun hh => hgo hh.1)] at h
              exact h)
            clear hgo hRD HG2 HOKK
            cases RD with
            | none =>
              replace hok : ok = false := hok
              subst hok
              have HNO : Hid (RES = ([], i1)) := Lib.hid (by have h := HG3.out; rw [HRD.out] at h; exact h.symm)
              clear hcg0
              go_wp2_with fail
              go_ret2
              exact gives_no (show FIN = _ from HFIN.out.trans ((if_neg (by omega)).trans HNO.out)) TR.out
            | some q =>
              replace hok : ok = true := hok
              subst hok
              have BO5 := Lib.hid (BO5.out q rfl)
              have HG4 := Lib.hid (show (if p = [] ∨ 16 ≤ lastLen p then ([], i1) else parseG false rest i1 (more p q)) = RES by have h := HG3.out; rw [HRD.out] at h; exact h)
              clear hcg0
              rcases Nat.eq_zero_or_pos pl with hp0 | hp0
              · have hz : ((pl : Int) == 0) = true := by rw [hp0]; rfl
                have HNO : Hid (RES = ([], i1)) := Lib.hid (by
                  have h := HG4.out
                  rw [if_pos (Or.inl (List.eq_nil_of_length_eq_zero (by rw [← HPL.out]; exact hp0)))] at h
                  exact h.symm)
                clear hp0
                go_wp2_with fail
                go_ret2
                exact gives_no (show FIN = _ from HFIN.out.trans ((if_neg (by omega)).trans HNO.out)) TR.out
              · obtain ⟨k2, hk2⟩ : ∃ k, pl = k + 1 := ⟨pl - 1, by omega⟩
                have hz : ((pl : Int) == 0) = false := by rw [beq_eq_false_iff_ne]; omega
                have hJ : (pl : Int) - 1 = (k2 : Int) := by omega
                have hkl : k2 < pl := by omega
                have hk7 : k2 ≤ 7 := by omega
                have hkW : IntKind.i64.wrap (k2 : Int) = (k2 : Int) := IntWalk.i64_in _ (by omega)
                have hkI : (k2 : Int) < (pl : Int) := by omega
                have hk0 : decide ((k2 : Int) < 0) = false := by rw [decide_eq_false_iff_not]; omega
                have HK := Lib.hid (show p.length = k2 + 1 by rw [← HPL.out]; exact hk2)
                obtain ⟨x2, hx2⟩ : ∃ x, V[k2]? = some x := ⟨_, List.getElem?_eq_getElem (by rw [P5.out.many, HK.out]; omega)⟩
                obtain ⟨l, hl2⟩ : ∃ l, p[k2]? = some l := ⟨_, List.getElem?_eq_getElem (by rw [HK.out]; omega)⟩
                obtain ⟨g, hao, hgb2, hcg, hfg, gcur, hgt⟩ := P5.out.at hx2
                dsimp only at hao
                subst hao
                have hX := P5.out.rows k2 x2 l hx2 hl2
                obtain ⟨xao, xlen, xcap⟩ := x2
                obtain rfl : xlen = l.length := hX.len
                have hl16 := H16.out l (List.mem_of_getElem? hl2)
                have hlast : lastLen p = l.length := by
                  unfold lastLen
                  rw [List.getLast?_eq_getElem?, HK.out]
                  show (p[k2]?.getD []).length = _
                  rw [hl2]
                  rfl
                have HLAST := Lib.hid hlast
                have HX := Lib.hid hX
                have HXV := Lib.hid hx2
                have HLV := Lib.hid hl2
                have HGT := Lib.hid (And.intro hgt hgb2)
                obtain ⟨ll, hll⟩ : ∃ n, l.length = n := ⟨_, rfl⟩
                have HLL := Lib.hid hll
                rw [hll] at hcg hl16
                unfold Sl.val at hcg
                dsimp only at hcg
                clear hX hx2 hl2 hlast hk2 hgt hgb2 hll hfg hp0
                by_cases he : ll = 16
                · subst he
                  have HNO : Hid (RES = ([], i1)) := Lib.hid (by
                    have h := HG4.out
                    rw [if_pos (Or.inr (by rw [HLAST.out, HLL.out]; exact Nat.le_refl _))] at h
                    exact h.symm)
                  go_wp2_with fail
                  go_ret2
                  exact gives_no (show FIN = _ from HFIN.out.trans ((if_neg (by omega)).trans HNO.out)) TR.out
                · have hl15 : ¬ (ll : Int) ≥ 16 := by omega
                  have HGN : Hid (parseG false ((W.take n).drop i1) i1 (p.set k2 (l ++ [q])) = RES) := Lib.hid (by
                    have h := HG4.out
                    rw [if_neg, more_set q HK.out HLV.out] at h
                    · rw [HREST.out]; exact h
                    · rintro (h | h)
                      · have := HK.out
                        rw [h] at this
                        simp at this
                      · rw [HLAST.out, HLL.out] at h
                        omega)
                  obtain ⟨l1, hl1⟩ : ∃ n, ll + 1 = n := ⟨_, rfl⟩
                  have HL1 := Lib.hid hl1
                  have hl17 : l1 ≤ 17 := by omega
                  clear hl1 he
                  have hl16 : ll ≤ 15 := by omega
                  have T2 := T5
                  have BO2 := BO5
                  have KEEP := Lib.hid (show ∀ w', Turn (fun _ => False) w5 w' → (w'.cell? ⟨g, k2, none⟩ = some (.slice xao ll xcap) ∧ w'.cell? ⟨bx, 0, none⟩ = some (.int .i64 kind) ∧ w'.cell? ⟨bx, 1, none⟩ = some (.int .i64 ch) ∧ w'.cell? ⟨bx, 2, none⟩ = some (.int .i64 nn) ∧ w'.cell? ⟨bx, 3, none⟩ = some (.int .i64 v) ∧ w'.cell? ⟨bx, 4, none⟩ = some (.slice ro rlen rcap) ∧ w'.cell? ⟨bx, 5, none⟩ = some (.bool els)) from fun w' t => ⟨t.cell id hcg, (D.out.new t).cells.1⟩)
                  go_upto_region 17 with fail
                  have TD := Lib.hid (Turn.refl (fun _ => False) w5).drew
                  clear hcg
                  refine stand_start (by kernel_rfl) 12 (fun w' => w'.cell? ⟨g, k2, none⟩ = some (.slice xao ll xcap) ∧ w'.cell? ⟨bx, 0, none⟩ = some (.int .i64 kind) ∧ w'.cell? ⟨bx, 1, none⟩ = some (.int .i64 ch) ∧ w'.cell? ⟨bx, 2, none⟩ = some (.int .i64 nn) ∧ w'.cell? ⟨bx, 3, none⟩ = some (.int .i64 v) ∧ w'.cell? ⟨bx, 4, none⟩ = some (.slice ro rlen rcap) ∧ w'.cell? ⟨bx, 5, none⟩ = some (.bool els)) 99 (fun w' => True) (KEEP.out _ TD.out) trivial ?_
                  generalize w5.drew = wd at TD ⊢
                  refine stand_take (i := 0) (v := ?_) rfl (by kernel_rfl) (by kernel_rfl) (by kernel_rfl) (by rfl) (fun _ _ _ h => h) (by decide) (by decide) (by rfl) ?_ ?_
                  rotate_left
                  · (intro w; go_simp; try with_reducible rfl)
                  dsimp only [List.set_cons_zero, List.set_cons_succ]
                  refine stand_take (i := 1) (v := ?_) rfl (by kernel_rfl) (by kernel_rfl) (by kernel_rfl) (by rfl) (fun _ _ _ h => h) (by decide) (by decide) (by rfl) ?_ ?_
                  rotate_left
                  · (intro w; go_simp; try with_reducible rfl)
                  dsimp only [List.set_cons_zero, List.set_cons_succ]
                  refine stand_take (i := 2) (v := ?_) rfl (by kernel_rfl) (by kernel_rfl) (by kernel_rfl) (by rfl) (fun _ _ _ h => h) (by decide) (by decide) (by rfl) ?_ ?_
                  rotate_left
                  · (intro w; go_simp; try with_reducible rfl)
                  dsimp only [List.set_cons_zero, List.set_cons_succ]
                  refine stand_take (i := 3) (v := ?_) rfl (by kernel_rfl) (by kernel_rfl) (by kernel_rfl) (by rfl) (fun _ _ _ h => h) (by decide) (by decide) (by rfl) ?_ ?_
                  rotate_left
                  · (intro w; go_simp; try with_reducible rfl)
                  dsimp only [List.set_cons_zero, List.set_cons_succ]
                  refine stand_take (i := 4) (v := ?_) rfl (by kernel_rfl) (by kernel_rfl) (by kernel_rfl) (by rfl) (fun _ _ _ h => h) (by decide) (by decide) (by rfl) ?_ ?_
                  rotate_left
                  · (intro w; go_simp; try with_reducible rfl)
                  dsimp only [List.set_cons_zero, List.set_cons_succ]
                  refine stand_take (i := 5) (v := ?_) rfl (by kernel_rfl) (by kernel_rfl) (by kernel_rfl) (by rfl) (fun _ _ _ h => h) (by decide) (by decide) (by rfl) ?_ ?_
                  rotate_left
                  · (intro w; go_simp; try with_reducible rfl)
                  dsimp only [List.set_cons_zero, List.set_cons_succ]
                  refine stand_take (i := 6) (v := ?_) rfl (by kernel_rfl) (by kernel_rfl) (by kernel_rfl) (by rfl) (fun _ _ _ h => h) (by decide) (by decide) (by rfl) ?_ ?_
                  rotate_left
                  · (intro w; go_simp; try with_reducible rfl)
                  dsimp only [List.set_cons_zero, List.set_cons_succ]
                  refine stand_take (i := 7) (v := ?_) rfl (by kernel_rfl) (by kernel_rfl) (by kernel_rfl) (by rfl) (fun _ _ _ h => h) (by decide) (by decide) (by rfl) ?_ ?_
                  rotate_left
                  · (intro w; go_simp; try with_reducible rfl)
                  dsimp only [List.set_cons_zero, List.set_cons_succ]
                  refine stand_take (i := 8) (v := ?_) rfl (by kernel_rfl) (by kernel_rfl) (by kernel_rfl) (by rfl) (fun _ _ _ h => h) (by decide) (by decide) (by rfl) ?_ ?_
                  rotate_left
                  · (intro w; go_simp; try with_reducible rfl)
                  dsimp only [List.set_cons_zero, List.set_cons_succ]
                  refine stand_load1 (i := 9) (v := ?_) rfl (by kernel_rfl) (by kernel_rfl) (by kernel_rfl) (by rfl) (fun _ _ _ h => h) (by decide) (by decide) (by kernel_rfl) (by rfl) ?_ ?_
                  rotate_left
                  · (intro w hA; (try dsimp only at hA); go_simp; try with_reducible rfl)
                  dsimp only [List.set_cons_zero, List.set_cons_succ]
                  refine stand_load1 (i := 10) (v := ?_) rfl (by kernel_rfl) (by kernel_rfl) (by kernel_rfl) (by rfl) (fun _ _ _ h => h) (by decide) (by decide) (by kernel_rfl) (by rfl) ?_ ?_
                  rotate_left
                  · (intro w hA; (try dsimp only at hA); go_simp; try with_reducible rfl)
                  dsimp only [List.set_cons_zero, List.set_cons_succ]
                  refine stand_step (i := 11) (by kernel_rfl) rfl (fun K hK => ?_)
                  go_simp
                  have T6 := Lib.hid (TD.out.alloc (.cells #[.int .i64 kind, .int .i64 ch, .int .i64 nn, .int .i64 v, .slice ro rlen rcap, .bool els] 25))
                  refine hK.out _ _ (fun _ => KEEP.out _ T6.out) (fun _ => trivial) ?_
                  clear hK K
                  try simp only [put_laid, List.set_cons_zero, List.set_cons_succ]
                  have C6 := Lib.hid (heap_alloc_new wd (.cells #[.int .i64 kind, .int .i64 ch, .int .i64 nn, .int .i64 v, .slice ro rlen rcap, .bool els] 25))
                  generalize wd.heap.size = ob at C6 ⊢
                  generalize wd.alloc (.cells #[.int .i64 kind, .int .i64 ch, .int .i64 nn, .int .i64 v, .slice ro rlen rcap, .bool els] 25) = w6 at T6 C6 ⊢
                  have TW6 := Lib.hid (T5.out.trans T6.out)
                  have BO6 := Lib.hid (BO5.out.new T6.out)
                  have P6 := Lib.hid (P5.out.new T6.out)
                  have OT6 := Lib.hid (own_turn OT5.out T6.out (fun _ _ => id))
                  obtain ⟨R, hR1, hR2, hR3⟩ := (HX.out.new T6.out).has
                  have hR2 : w6.ownsRow g0 25 6 (.slice xao ll xcap) ll (flat encOV R) := by rw [← HLL.out]; exact hR2
                  have hb6 : g0 ≤ w6.heap.size := Nat.le_trans hgb T6.out.size
                  have OW := Lib.hid hR2
                  have HRR := Lib.hid (And.intro hR1 hR3)
                  clear hR1 hR2 hR3
                  refine stand_step (i := 12) (by kernel_rfl) rfl (fun K hK => ?_)
                  refine step_append_flat_one encOV_ok (by decide) Tryd.underlying41 info_op rfl (by decide) rfl (.tmp 91) (.tmp 93) rfl g0 (.slice xao ll xcap) R ll rfl OW.out ob ⟨kind, ch, nn, v, ⟨ro, rlen, rcap⟩, els⟩ rfl C6.out l1 HL1.out (by omega) hb6 ?_
                  intro g3 gc w7 hg3 h7 t7 h7g
                  have apC : Apart w6 40 (fun i => (Value.slice xao ll xcap).ownBlock = some i) := apart_own OW.out (by decide)
                  have GY : Hid (GOps w7 40 25 g0 ⟨some ⟨g3, 0, none⟩, l1, gc⟩ (l ++ [q])) := Lib.hid ⟨by rw [List.length_append, HLL.out]; exact HL1.out.symm, R ++ [⟨kind, ch, nn, v, ⟨ro, rlen, rcap⟩, els⟩], by rw [List.length_append, List.length_append, HRR.out.1]; rfl, by
                    have e : (l ++ [q]).length = l1 := by rw [List.length_append, HLL.out]; exact HL1.out
                    rw [e]
                    exact h7.out, snoc_each HRR.out.1 (fun i r o hr ho => (HRR.out.2 i r o hr ho).apart t7.out apC) (BO6.out.apart t7.out apC)⟩
                  have hxv : (⟨xao, l.length, xcap⟩ : Sl).val = .slice xao ll xcap := by unfold Sl.val; rw [HLL.out]
                  have T7x : Turn (fun b => (⟨xao, l.length, xcap⟩ : Sl).val.ownBlock = some b) w6 w7 := by rw [hxv]; exact t7.out
                  have GR := Lib.hid (P6.out.grown (o := q) (by decide) (by decide) (by decide) HXV.out HLV.out rfl T7x GY.out (fun b hb => by
                    have e : g3 = b := by simpa [Sl.val, Value.ownBlock] using hb
                    subst e
                    rw [hxv]
                    exact h7g.out))
                  have hne : ¬ ((Value.slice xao ll xcap).ownBlock = some g) := fun e => by
                    obtain ⟨cur, hc⟩ := own_type OW.out g e
                    rw [T6.out.heap id HGT.out.1] at hc
                    simp at hc
                  have hf7 : w7.frozen? ⟨g, k2, none⟩ = false := by
                    have := t7.out.heap hne (T6.out.heap id HGT.out.1)
                    simp [World.frozen?, this]
                  have hc7 : w7.cell? ⟨g, k2, none⟩ = some (.slice xao ll xcap) := t7.out.cell hne ((KEEP.out _ T6.out).1)
                  refine hK.out _ _ (past (by kernel_rfl)) (fun _ => trivial) ?_
                  clear hK K
                  try simp only [put_laid, List.set_cons_zero, List.set_cons_succ]
                  refine stand_take (i := 13) (v := ?_) rfl (by kernel_rfl) (by kernel_rfl) (by kernel_rfl) (by rfl) (fun _ _ _ h => h) (by decide) (by decide) (by rfl) ?_ ?_
                  rotate_left
                  · (intro w; go_simp; try with_reducible rfl)
                  dsimp only [List.set_cons_zero, List.set_cons_succ]
                  refine stand_step (i := 14) (by kernel_rfl) rfl (fun K hK => ?_)
                  go_simp
                  refine hK.out _ _ (past (by kernel_rfl)) (fun _ => trivial) ?_
                  clear hK K
                  try simp only [put_laid, List.set_cons_zero, List.set_cons_succ]
                  refine stand_done (by kernel_rfl) ?_
                  have GRF : Hid (PG (w7.setCell ⟨g, k2, none⟩ (.slice (some ⟨g3, 0, none⟩) l1 gc)) 40 25 41 g0 ⟨some ⟨g, 0, none⟩, pl, pc⟩ (V.set k2 ⟨some ⟨g3, 0, none⟩, l1, gc⟩) (p.set k2 (l ++ [q])) ∧ Turn (Mine ⟨some ⟨g, 0, none⟩, pl, pc⟩ V) w6 (w7.setCell ⟨g, k2, none⟩ (.slice (some ⟨g3, 0, none⟩) l1 gc))) := GR
                  clear hf7 hc7 h7 t7 h7g apC T7x GR hne hxv
                  generalize w7.setCell ⟨g, k2, none⟩ (.slice (some ⟨g3, 0, none⟩) l1 gc) = w8 at GRF ⊢
                  have TF := Lib.hid (TW6.out.and GRF.out.2 (fun i hi hm => by have := (P6.out.mine2 hm).1; omega))
                  have OF := Lib.hid (own_beside P6.out GRF.out.2 OT6.out)
                  have HROWS : Hid (∀ m ∈ p.set k2 (l ++ [q]), m.length ≤ 16) := Lib.hid (fun m hm => by
                    rcases List.mem_or_eq_of_mem_set hm with h | h
                    · exact H16.out m h
                    · rw [h, List.length_append, HLL.out]
                      show ll + 1 ≤ 16
                      omega)
                  go_wp2_with fail
                  go_roundw
                  case rel => exact ⟨i1, p.set k2 (l ++ [q]), ⟨some ⟨g, 0, none⟩, pl, pc⟩, V.set k2 ⟨some ⟨g3, 0, none⟩, l1, gc⟩, rfl, rfl, by omega, by rw [List.length_set, ← HPL.out]; exact hpl8, HROWS, Lib.hid GRF.out.1, TF, OF, HGN⟩
                  case measure => simp [intOf]; omega
        · have h0 : ¬ ((i : Int) < (k : Int)) := by omega
          have hr0 : rest = [] := List.eq_nil_of_length_eq_zero (by rw [HRL.out]; omega)
          have HNO : Hid (RES = ([], i1)) := Lib.hid (by have h := HG1.out; rw [parseG_cons, if_pos ⟨hr0, rfl⟩, HI.out] at h; exact h.symm)
          clear HG1 hr0
          go_upto_region 10 with fail
          go_wp2_with fail
          refine (CR.out _).mono ?_
          rintro e w4 ⟨t4, ⟨kind, ch, nn, v, ⟨ro, rlen, rcap⟩, els⟩, ok, rfl, hok, hbo⟩
          have TR := Lib.hid ((T.out.trans t4).alloc (.cells #[.int .i64 kind, .int .i64 ch, .int .i64 nn, .int .i64 v, .slice ro rlen rcap, .bool els] 25))
          clear t4 hbo hcx hok
          unfold OpV.val Sl.val
          dsimp only
          go_wp2_with fail
          go_ret2
          exact gives_no (show FIN = _ from HFIN.out.trans ((if_neg (by omega)).trans HNO.out)) TR.out
      · have hge : ¬ ((i : Int) < (n : Int)) := by omega
        have HE : Hid (RES = (p, 0)) := Lib.hid (by
          have h := HG.out
          rw [List.drop_of_length_le (by rw [List.length_take, HN.out]; omega)] at h
          exact h.symm)
        obtain ⟨zb, hzb⟩ : ∃ b, (((n : Nat) : Int) == 0) = b := ⟨_, rfl⟩
        cases zb
        · have HFE : Hid (FIN = (p, 0)) := Lib.hid (by
            rw [HFIN.out, if_neg, HE.out]
            rw [beq_eq_false_iff_ne] at hzb
            omega)
          go_wp2_with fail
          go_ret2
          exact gives_l (sl := ⟨po, pl, pc⟩) (n := 0) T.out (by rw [HFE.out]) (by rw [HFE.out]; exact P.out.plan.reads)
        · have HFE : Hid (FIN = ([], 1)) := Lib.hid (by
            rw [HFIN.out, if_pos]
            have := eq_of_beq hzb
            omega)
          go_wp2_with fail
          go_ret2
          exact gives_no HFE.out T.out
  · have HPX := Lib.hid (HPE.out (of_decide_eq_true heb))
    have hsl : ∀ w, (Instr.slice 53 (.slice (some ad) n c) none (some (.int .i64 k)) none).run Tryd.prog w = .ok (.slice (some ad) k c) w := fun w => low_texts ad hcap w
    clear heb
    go_upto_region 7 with fail
    clear hcz hq
    obtain ⟨RES, hRES⟩ : ∃ r, parseG true (W.take k) 0 [] = r := ⟨_, rfl⟩
    have hFIN := HPX.out
    rw [hRES] at hFIN
    have HFIN := Lib.hid hFIN
    have HRES := Lib.hid hRES
    clear hRES hFIN
    go_loopw [4, 30] (fun s4 s30 wr => ∃ (i : Nat) (p : List (List Opr)) (sl : Sl) (V : List Sl), s4 = sl.val ∧ s30 = .int .i64 i ∧ i ≤ k ∧ p.length ≤ 8 ∧ Hid (∀ l ∈ p, l.length ≤ 16) ∧ Hid (PG wr 40 25 41 g0 sl V p) ∧ Hid (Turn (fun _ => False) w wr) ∧ Hid (wr.ownsRow tb 9 1 (.slice (some ad) n c) n (flat encT W)) ∧ Hid (parseG true ((W.take k).drop i) i p = RES)) (fun _ s30 _ => k - (intOf s30).toNat)
    case atStart => exact ⟨0, [], ⟨some ⟨g0, 0, none⟩, 0, 0⟩, [], rfl, rfl, Nat.zero_le _, Nat.zero_le _, Lib.hid (fun m hm => by cases hm), P2, T2, OT2, Lib.hid (by rw [List.drop_zero]; exact HRES.out)⟩
    case round =>
      clear P2 T2 OT2
      obtain ⟨i, p, ⟨po, pl, pc⟩, V, rfl, rfl, hi, hp8, H16, P, T, OT, HG⟩ := hrel
      have hpl : pl = p.length := P.out.len
      have HPL := Lib.hid hpl
      have hpl8 : pl ≤ 8 := by omega
      clear hpl hp8
      unfold Sl.val
      dsimp only
      by_cases hlt : i < k
      · obtain ⟨x, hx⟩ : ∃ x, W[i]? = some x := ⟨_, List.getElem?_eq_getElem (by rw [HN.out]; omega)⟩
        obtain ⟨_, had, hcx⟩ := (RTs.of_own OT.out).at hx
        cases had
        have hxl := HF.out x (List.mem_of_getElem? hx)
        have CR := Lib.hid (fun w => rread_any x w hxl)
        obtain ⟨i1, hi1⟩ : ∃ j, i + 1 = j := ⟨_, rfl⟩
        have hI1 : (i : Int) + 1 = (i1 : Int) := by omega
        obtain ⟨rest, hrest⟩ : ∃ r, (W.take k).drop i1 = r := ⟨_, rfl⟩
        have hsplit : (W.take k).drop i = x :: rest := by
          have hxm : (W.take k)[i]? = some x := by rw [List.getElem?_take, if_pos hlt]; exact hx
          obtain ⟨hl, e⟩ := List.getElem?_eq_some_iff.1 hxm
          rw [List.drop_eq_getElem_cons hl, e, hi1, hrest]
        have HG1 := Lib.hid (show parseG true (x :: rest) i p = RES by rw [← hsplit]; exact HG.out)
        have HRL : Hid (rest.length = k - i1) := Lib.hid (by rw [← hrest, List.length_drop, List.length_take, HN.out]; omega)
        have HREST := Lib.hid hrest
        obtain ⟨X, hX⟩ : ∃ y, bs x = y := ⟨_, rfl⟩
        rw [hX] at hcx CR
        have HX0 := Lib.hid hX
        have hi1m : i1 ≤ k := by omega
        have HI := Lib.hid hi1
        clear hx hxl hi1 hrest hsplit hX HG
        have HWH : rest ≠ [] ∨ true = true := Or.inr rfl
        rcases Nat.lt_or_ge (i + 1) k with hik | hik
        · have h0 : (i : Int) < (k : Int) - 1 := by omega
          have HG2 := Lib.hid (parse_one HG1.out HI.out HWH)
          clear HG1
          go_upto_region 10 with fail
          go_wp2_with fail
          refine (CR.out _).mono ?_
          rintro e w4 ⟨t4, ⟨kind, ch, nn, v, ⟨ro, rlen, rcap⟩, els⟩, ok, rfl, hok, hbo⟩
          have T4 := Lib.hid (T.out.trans t4)
          have P4 := Lib.hid (P.out.new t4)
          have OT4 := Lib.hid (own_turn OT.out t4 (fun _ _ => id))
          have HBO := Lib.hid hbo
          have HOKK := Lib.hid hok
          clear t4 hbo hcx hok
          unfold OpV.val Sl.val
          dsimp only
          go_upto_region 13 with fail
          have TA := Lib.hid ((Turn.refl (fun _ => False) w4).alloc (.cells #[.int .i64 kind, .int .i64 ch, .int .i64 nn, .int .i64 v, .slice ro rlen rcap, .bool els] 25))
          have D : Hid (Six (w4.alloc (.cells #[.int .i64 kind, .int .i64 ch, .int .i64 nn, .int .i64 v, .slice ro rlen rcap, .bool els] 25)) w4.heap.size kind ch nn v (.slice ro rlen rcap) els) := Lib.hid (blk_new w4 _ 25)
          obtain ⟨bx, hbx⟩ : ∃ b, w4.heap.size = b := ⟨_, rfl⟩
          rw [hbx] at D ⊢
          clear hbx
          generalize w4.alloc (.cells #[.int .i64 kind, .int .i64 ch, .int .i64 nn, .int .i64 v, .slice ro rlen rcap, .bool els] 25) = w5 at TA D ⊢
          have T5 := Lib.hid (T4.out.trans TA.out)
          have P5 := Lib.hid (P4.out.new TA.out)
          have OT5 := Lib.hid (own_turn OT4.out TA.out (fun _ _ => id))
          have BO5 : Hid (∀ q, readT x = some q → BOp w5 40 ⟨kind, ch, nn, v, ⟨ro, rlen, rcap⟩, els⟩ q) := Lib.hid (fun q hq => (HBO.out q hq).new TA.out)
          have hgb : g0 ≤ w5.heap.size := by have := T5.out.size; omega
          have TR := T5
          clear TA T4 P4 OT4 HBO T P OT
          have hcg0 := True.intro
          by_cases hgo : x = wGo
          · have hq := lit_text x wGo (b := true) (by rw [decide_eq_true_eq]; exact hgo)
            unfold wGo at hq
            rw [HX0.out] at hq
            have hrd : readT x = none := by rw [hgo]; exact readT_go
            rcases Nat.lt_or_ge pl 8 with hp8 | hp8
            · have HG3 : Hid (parseG true ((W.take k).drop i1) i1 (p ++ [[]]) = RES) := Lib.hid (by
                have h := HG2.out
                rw [if_pos ⟨hgo, by rw [← HPL.out]; exact hp8⟩] at h
                rw [HREST.out]
                exact h)
              clear hgo hrd hcg0
              go_upto_region 14 with fail
              have EB := Lib.hid (heap_alloc_new w5 (.cells #[] 25))
              have TB := Lib.hid ((Turn.refl (fun _ => False) w5).alloc (.cells #[] 25))
              have P6 := Lib.hid (P5.out.new TB.out)
              have OT6 := Lib.hid (own_turn OT5.out TB.out (fun _ _ => id))
              have T6 := Lib.hid (T5.out.trans TB.out)
              have HD : Hid (∀ (b i : Nat) (q : Sl), (⟨some ⟨w5.heap.size, 0, none⟩, 0, 0⟩ : Sl).val.ownBlock = some b → V[i]? = some q → q.val.ownBlock ≠ some b) := Lib.hid (fun b i q hb hq hqb => by
                have e : w5.heap.size = b := by simpa [Sl.val, Value.ownBlock] using hb
                have hi : i < p.length := by rw [← P5.out.many]; exact (List.getElem?_eq_some_iff.1 hq).1
                have := ((P5.out.rows i q _ hq (List.getElem?_eq_getElem hi)).low b hqb).2
                omega)
              have GO6 : Hid (GOps (w5.alloc (.cells #[] 25)) 40 25 g0 ⟨some ⟨w5.heap.size, 0, none⟩, 0, 0⟩ []) := Lib.hid (GOps.made EB.out hgb)
              obtain ⟨k1, hk1⟩ : ∃ n, pl + 1 = n := ⟨_, rfl⟩
              have HK1 := Lib.hid (show p.length + 1 = k1 by rw [← HPL.out]; exact hk1)
              have hk8 : k1 ≤ 8 := by omega
              have hgb6 : g0 ≤ (w5.alloc (.cells #[] 25)).heap.size := Nat.le_trans hgb TB.out.size
              have hsz : (w5.alloc (.cells #[] 25)).heap.size = w5.heap.size + 1 := by simp
              have HSZ := Lib.hid hsz
              clear hk1 hsz
              go_wp2_with (at_builtin; refine wpList_append_row (by decide) (by decide) Tryd.underlying22 info_ops rfl (by decide) rfl (.tmp 59) (.tmp 61) rfl ⟨po, pl, pc⟩ V p ⟨some ⟨w5.heap.size, 0, none⟩, 0, 0⟩ rfl rfl P6.out GO6.out HD.out (by rw [HSZ.out]; rfl) k1 HK1.out (by omega) hgb6 ?_; intro g gc w7 hg h7 t7)
              go_roundw
              case rel => exact ⟨i1, p ++ [[]], ⟨some ⟨g, 0, none⟩, k1, gc⟩, V ++ [⟨some ⟨w5.heap.size, 0, none⟩, 0, 0⟩], rfl, rfl, by omega, by rw [List.length_append]; show p.length + 1 ≤ 8; rw [HK1.out]; exact hk8, Lib.hid (fun m hm => by
                rcases List.mem_append.1 hm with h | h
                · exact H16.out m h
                · rw [List.mem_singleton] at h
                  subst h
                  exact Nat.zero_le _), h7, Lib.hid (T6.out.and t7.out (fun i hi hm => by have := P6.out.low i hm; omega)), Lib.hid (own_beside P6.out (t7.out.mono fun _ _ e => Or.inl e) OT6.out), HG3⟩
              case measure => simp [intOf]; omega
            · obtain rfl : pl = 8 := by omega
              have HNO : Hid (RES = ([], i1)) := Lib.hid (by
                have h := HG2.out
                rw [if_neg (by rintro ⟨_, h⟩; rw [← HPL.out] at h; omega), hrd] at h
                exact h.symm)
              have hok := HOKK.out
              rw [hrd] at hok
              replace hok : ok = false := hok
              subst hok
              clear hgo hrd hcg0
              go_wp2_with fail
              go_ret2
              exact gives_no (show FIN = _ from HFIN.out.trans ((if_neg (by omega)).trans HNO.out)) TR.out
          · have hq := lit_text x wGo (b := false) (by rw [decide_eq_false_iff_not]; exact hgo)
            unfold wGo at hq
            rw [HX0.out] at hq
            obtain ⟨RD, hRD⟩ : ∃ o, readT x = o := ⟨_, rfl⟩
            have HRD := Lib.hid hRD
            have hok := HOKK.out
            rw [hRD] at hok BO5
            have HG3 := Lib.hid (show (match readT x with | none => ([], i1) | some o => if p = [] ∨ 16 ≤ lastLen p then ([], i1) else parseG true rest i1 (more p o)) = RES by
              have h := HG2.out
              rw [if_neg (fun hh => hgo hh.1)] at h
              exact h)
            clear hgo hRD HG2 HOKK
            cases RD with
            | none =>
              replace hok : ok = false := hok
              subst hok
              have HNO : Hid (RES = ([], i1)) := Lib.hid (by have h := HG3.out; rw [HRD.out] at h; exact h.symm)
              clear hcg0
              go_wp2_with fail
              go_ret2
              exact gives_no (show FIN = _ from HFIN.out.trans ((if_neg (by omega)).trans HNO.out)) TR.out
            | some q =>
              replace hok : ok = true := hok
              subst hok
              have BO5 := Lib.hid (BO5.out q rfl)
              have HG4 := Lib.hid (show (if p = [] ∨ 16 ≤ lastLen p then ([], i1) else parseG true rest i1 (more p q)) = RES by have h := HG3.out; rw [HRD.out] at h; exact h)
              clear hcg0
              rcases Nat.eq_zero_or_pos pl with hp0 | hp0
              · have hz : ((pl : Int) == 0) = true := by rw [hp0]; rfl
                have HNO : Hid (RES = ([], i1)) := Lib.hid (by
                  have h := HG4.out
                  rw [if_pos (Or.inl (List.eq_nil_of_length_eq_zero (by rw [← HPL.out]; exact hp0)))] at h
                  exact h.symm)
                clear hp0
                go_wp2_with fail
                go_ret2
                exact gives_no (show FIN = _ from HFIN.out.trans ((if_neg (by omega)).trans HNO.out)) TR.out
              · obtain ⟨k2, hk2⟩ : ∃ k, pl = k + 1 := ⟨pl - 1, by omega⟩
                have hz : ((pl : Int) == 0) = false := by rw [beq_eq_false_iff_ne]; omega
                have hJ : (pl : Int) - 1 = (k2 : Int) := by omega
                have hkl : k2 < pl := by omega
                have hk7 : k2 ≤ 7 := by omega
                have hkW : IntKind.i64.wrap (k2 : Int) = (k2 : Int) := IntWalk.i64_in _ (by omega)
                have hkI : (k2 : Int) < (pl : Int) := by omega
                have hk0 : decide ((k2 : Int) < 0) = false := by rw [decide_eq_false_iff_not]; omega
                have HK := Lib.hid (show p.length = k2 + 1 by rw [← HPL.out]; exact hk2)
                obtain ⟨x2, hx2⟩ : ∃ x, V[k2]? = some x := ⟨_, List.getElem?_eq_getElem (by rw [P5.out.many, HK.out]; omega)⟩
                obtain ⟨l, hl2⟩ : ∃ l, p[k2]? = some l := ⟨_, List.getElem?_eq_getElem (by rw [HK.out]; omega)⟩
                obtain ⟨g, hao, hgb2, hcg, hfg, gcur, hgt⟩ := P5.out.at hx2
                dsimp only at hao
                subst hao
                have hX := P5.out.rows k2 x2 l hx2 hl2
                obtain ⟨xao, xlen, xcap⟩ := x2
                obtain rfl : xlen = l.length := hX.len
                have hl16 := H16.out l (List.mem_of_getElem? hl2)
                have hlast : lastLen p = l.length := by
                  unfold lastLen
                  rw [List.getLast?_eq_getElem?, HK.out]
                  show (p[k2]?.getD []).length = _
                  rw [hl2]
                  rfl
                have HLAST := Lib.hid hlast
                have HX := Lib.hid hX
                have HXV := Lib.hid hx2
                have HLV := Lib.hid hl2
                have HGT := Lib.hid (And.intro hgt hgb2)
                obtain ⟨ll, hll⟩ : ∃ n, l.length = n := ⟨_, rfl⟩
                have HLL := Lib.hid hll
                rw [hll] at hcg hl16
                unfold Sl.val at hcg
                dsimp only at hcg
                clear hX hx2 hl2 hlast hk2 hgt hgb2 hll hfg hp0
                by_cases he : ll = 16
                · subst he
                  have HNO : Hid (RES = ([], i1)) := Lib.hid (by
                    have h := HG4.out
                    rw [if_pos (Or.inr (by rw [HLAST.out, HLL.out]; exact Nat.le_refl _))] at h
                    exact h.symm)
                  go_wp2_with fail
                  go_ret2
                  exact gives_no (show FIN = _ from HFIN.out.trans ((if_neg (by omega)).trans HNO.out)) TR.out
                · have hl15 : ¬ (ll : Int) ≥ 16 := by omega
                  have HGN : Hid (parseG true ((W.take k).drop i1) i1 (p.set k2 (l ++ [q])) = RES) := Lib.hid (by
                    have h := HG4.out
                    rw [if_neg, more_set q HK.out HLV.out] at h
                    · rw [HREST.out]; exact h
                    · rintro (h | h)
                      · have := HK.out
                        rw [h] at this
                        simp at this
                      · rw [HLAST.out, HLL.out] at h
                        omega)
                  obtain ⟨l1, hl1⟩ : ∃ n, ll + 1 = n := ⟨_, rfl⟩
                  have HL1 := Lib.hid hl1
                  have hl17 : l1 ≤ 17 := by omega
                  clear hl1 he
                  have hl16 : ll ≤ 15 := by omega
                  have T2 := T5
                  have BO2 := BO5
                  have KEEP := Lib.hid (show ∀ w', Turn (fun _ => False) w5 w' → (w'.cell? ⟨g, k2, none⟩ = some (.slice xao ll xcap) ∧ w'.cell? ⟨bx, 0, none⟩ = some (.int .i64 kind) ∧ w'.cell? ⟨bx, 1, none⟩ = some (.int .i64 ch) ∧ w'.cell? ⟨bx, 2, none⟩ = some (.int .i64 nn) ∧ w'.cell? ⟨bx, 3, none⟩ = some (.int .i64 v) ∧ w'.cell? ⟨bx, 4, none⟩ = some (.slice ro rlen rcap) ∧ w'.cell? ⟨bx, 5, none⟩ = some (.bool els)) from fun w' t => ⟨t.cell id hcg, (D.out.new t).cells.1⟩)
                  go_upto_region 17 with fail
                  have TD := Lib.hid (Turn.refl (fun _ => False) w5).drew
                  clear hcg
                  refine stand_start (by kernel_rfl) 12 (fun w' => w'.cell? ⟨g, k2, none⟩ = some (.slice xao ll xcap) ∧ w'.cell? ⟨bx, 0, none⟩ = some (.int .i64 kind) ∧ w'.cell? ⟨bx, 1, none⟩ = some (.int .i64 ch) ∧ w'.cell? ⟨bx, 2, none⟩ = some (.int .i64 nn) ∧ w'.cell? ⟨bx, 3, none⟩ = some (.int .i64 v) ∧ w'.cell? ⟨bx, 4, none⟩ = some (.slice ro rlen rcap) ∧ w'.cell? ⟨bx, 5, none⟩ = some (.bool els)) 99 (fun w' => True) (KEEP.out _ TD.out) trivial ?_
                  generalize w5.drew = wd at TD ⊢
                  refine stand_take (i := 0) (v := ?_) rfl (by kernel_rfl) (by kernel_rfl) (by kernel_rfl) (by rfl) (fun _ _ _ h => h) (by decide) (by decide) (by rfl) ?_ ?_
                  rotate_left
                  · (intro w; go_simp; try with_reducible rfl)
                  dsimp only [List.set_cons_zero, List.set_cons_succ]
                  refine stand_take (i := 1) (v := ?_) rfl (by kernel_rfl) (by kernel_rfl) (by kernel_rfl) (by rfl) (fun _ _ _ h => h) (by decide) (by decide) (by rfl) ?_ ?_
                  rotate_left
                  · (intro w; go_simp; try with_reducible rfl)
                  dsimp only [List.set_cons_zero, List.set_cons_succ]
                  refine stand_take (i := 2) (v := ?_) rfl (by kernel_rfl) (by kernel_rfl) (by kernel_rfl) (by rfl) (fun _ _ _ h => h) (by decide) (by decide) (by rfl) ?_ ?_
                  rotate_left
                  · (intro w; go_simp; try with_reducible rfl)
                  dsimp only [List.set_cons_zero, List.set_cons_succ]
                  refine stand_take (i := 3) (v := ?_) rfl (by kernel_rfl) (by kernel_rfl) (by kernel_rfl) (by rfl) (fun _ _ _ h => h) (by decide) (by decide) (by rfl) ?_ ?_
                  rotate_left
                  · (intro w; go_simp; try with_reducible rfl)
                  dsimp only [List.set_cons_zero, List.set_cons_succ]
                  refine stand_take (i := 4) (v := ?_) rfl (by kernel_rfl) (by kernel_rfl) (by kernel_rfl) (by rfl) (fun _ _ _ h => h) (by decide) (by decide) (by rfl) ?_ ?_
                  rotate_left
                  · (intro w; go_simp; try with_reducible rfl)
                  dsimp only [List.set_cons_zero, List.set_cons_succ]
                  refine stand_take (i := 5) (v := ?_) rfl (by kernel_rfl) (by kernel_rfl) (by kernel_rfl) (by rfl) (fun _ _ _ h => h) (by decide) (by decide) (by rfl) ?_ ?_
                  rotate_left
                  · (intro w; go_simp; try with_reducible rfl)
                  dsimp only [List.set_cons_zero, List.set_cons_succ]
                  refine stand_take (i := 6) (v := ?_) rfl (by kernel_rfl) (by kernel_rfl) (by kernel_rfl) (by rfl) (fun _ _ _ h => h) (by decide) (by decide) (by rfl) ?_ ?_
                  rotate_left
                  · (intro w; go_simp; try with_reducible rfl)
                  dsimp only [List.set_cons_zero, List.set_cons_succ]
                  refine stand_take (i := 7) (v := ?_) rfl (by kernel_rfl) (by kernel_rfl) (by kernel_rfl) (by rfl) (fun _ _ _ h => h) (by decide) (by decide) (by rfl) ?_ ?_
                  rotate_left
                  · (intro w; go_simp; try with_reducible rfl)
                  dsimp only [List.set_cons_zero, List.set_cons_succ]
                  refine stand_take (i := 8) (v := ?_) rfl (by kernel_rfl) (by kernel_rfl) (by kernel_rfl) (by rfl) (fun _ _ _ h => h) (by decide) (by decide) (by rfl) ?_ ?_
                  rotate_left
                  · (intro w; go_simp; try with_reducible rfl)
                  dsimp only [List.set_cons_zero, List.set_cons_succ]
                  refine stand_load1 (i := 9) (v := ?_) rfl (by kernel_rfl) (by kernel_rfl) (by kernel_rfl) (by rfl) (fun _ _ _ h => h) (by decide) (by decide) (by kernel_rfl) (by rfl) ?_ ?_
                  rotate_left
                  · (intro w hA; (try dsimp only at hA); go_simp; try with_reducible rfl)
                  dsimp only [List.set_cons_zero, List.set_cons_succ]
                  refine stand_load1 (i := 10) (v := ?_) rfl (by kernel_rfl) (by kernel_rfl) (by kernel_rfl) (by rfl) (fun _ _ _ h => h) (by decide) (by decide) (by kernel_rfl) (by rfl) ?_ ?_
                  rotate_left
                  · (intro w hA; (try dsimp only at hA); go_simp; try with_reducible rfl)
                  dsimp only [List.set_cons_zero, List.set_cons_succ]
                  refine stand_step (i := 11) (by kernel_rfl) rfl (fun K hK => ?_)
                  go_simp
                  have T6 := Lib.hid (TD.out.alloc (.cells #[.int .i64 kind, .int .i64 ch, .int .i64 nn, .int .i64 v, .slice ro rlen rcap, .bool els] 25))
                  refine hK.out _ _ (fun _ => KEEP.out _ T6.out) (fun _ => trivial) ?_
                  clear hK K
                  try simp only [put_laid, List.set_cons_zero, List.set_cons_succ]
                  have C6 := Lib.hid (heap_alloc_new wd (.cells #[.int .i64 kind, .int .i64 ch, .int .i64 nn, .int .i64 v, .slice ro rlen rcap, .bool els] 25))
                  generalize wd.heap.size = ob at C6 ⊢
                  generalize wd.alloc (.cells #[.int .i64 kind, .int .i64 ch, .int .i64 nn, .int .i64 v, .slice ro rlen rcap, .bool els] 25) = w6 at T6 C6 ⊢
                  have TW6 := Lib.hid (T5.out.trans T6.out)
                  have BO6 := Lib.hid (BO5.out.new T6.out)
                  have P6 := Lib.hid (P5.out.new T6.out)
                  have OT6 := Lib.hid (own_turn OT5.out T6.out (fun _ _ => id))
                  obtain ⟨R, hR1, hR2, hR3⟩ := (HX.out.new T6.out).has
                  have hR2 : w6.ownsRow g0 25 6 (.slice xao ll xcap) ll (flat encOV R) := by rw [← HLL.out]; exact hR2
                  have hb6 : g0 ≤ w6.heap.size := Nat.le_trans hgb T6.out.size
                  have OW := Lib.hid hR2
                  have HRR := Lib.hid (And.intro hR1 hR3)
                  clear hR1 hR2 hR3
                  refine stand_step (i := 12) (by kernel_rfl) rfl (fun K hK => ?_)
                  refine step_append_flat_one encOV_ok (by decide) Tryd.underlying41 info_op rfl (by decide) rfl (.tmp 91) (.tmp 93) rfl g0 (.slice xao ll xcap) R ll rfl OW.out ob ⟨kind, ch, nn, v, ⟨ro, rlen, rcap⟩, els⟩ rfl C6.out l1 HL1.out (by omega) hb6 ?_
                  intro g3 gc w7 hg3 h7 t7 h7g
                  have apC : Apart w6 40 (fun i => (Value.slice xao ll xcap).ownBlock = some i) := apart_own OW.out (by decide)
                  have GY : Hid (GOps w7 40 25 g0 ⟨some ⟨g3, 0, none⟩, l1, gc⟩ (l ++ [q])) := Lib.hid ⟨by rw [List.length_append, HLL.out]; exact HL1.out.symm, R ++ [⟨kind, ch, nn, v, ⟨ro, rlen, rcap⟩, els⟩], by rw [List.length_append, List.length_append, HRR.out.1]; rfl, by
                    have e : (l ++ [q]).length = l1 := by rw [List.length_append, HLL.out]; exact HL1.out
                    rw [e]
                    exact h7.out, snoc_each HRR.out.1 (fun i r o hr ho => (HRR.out.2 i r o hr ho).apart t7.out apC) (BO6.out.apart t7.out apC)⟩
                  have hxv : (⟨xao, l.length, xcap⟩ : Sl).val = .slice xao ll xcap := by unfold Sl.val; rw [HLL.out]
                  have T7x : Turn (fun b => (⟨xao, l.length, xcap⟩ : Sl).val.ownBlock = some b) w6 w7 := by rw [hxv]; exact t7.out
                  have GR := Lib.hid (P6.out.grown (o := q) (by decide) (by decide) (by decide) HXV.out HLV.out rfl T7x GY.out (fun b hb => by
                    have e : g3 = b := by simpa [Sl.val, Value.ownBlock] using hb
                    subst e
                    rw [hxv]
                    exact h7g.out))
                  have hne : ¬ ((Value.slice xao ll xcap).ownBlock = some g) := fun e => by
                    obtain ⟨cur, hc⟩ := own_type OW.out g e
                    rw [T6.out.heap id HGT.out.1] at hc
                    simp at hc
                  have hf7 : w7.frozen? ⟨g, k2, none⟩ = false := by
                    have := t7.out.heap hne (T6.out.heap id HGT.out.1)
                    simp [World.frozen?, this]
                  have hc7 : w7.cell? ⟨g, k2, none⟩ = some (.slice xao ll xcap) := t7.out.cell hne ((KEEP.out _ T6.out).1)
                  refine hK.out _ _ (past (by kernel_rfl)) (fun _ => trivial) ?_
                  clear hK K
                  try simp only [put_laid, List.set_cons_zero, List.set_cons_succ]
                  refine stand_take (i := 13) (v := ?_) rfl (by kernel_rfl) (by kernel_rfl) (by kernel_rfl) (by rfl) (fun _ _ _ h => h) (by decide) (by decide) (by rfl) ?_ ?_
                  rotate_left
                  · (intro w; go_simp; try with_reducible rfl)
                  dsimp only [List.set_cons_zero, List.set_cons_succ]
                  refine stand_step (i := 14) (by kernel_rfl) rfl (fun K hK => ?_)
                  go_simp
                  refine hK.out _ _ (past (by kernel_rfl)) (fun _ => trivial) ?_
                  clear hK K
                  try simp only [put_laid, List.set_cons_zero, List.set_cons_succ]
                  refine stand_done (by kernel_rfl) ?_
                  have GRF : Hid (PG (w7.setCell ⟨g, k2, none⟩ (.slice (some ⟨g3, 0, none⟩) l1 gc)) 40 25 41 g0 ⟨some ⟨g, 0, none⟩, pl, pc⟩ (V.set k2 ⟨some ⟨g3, 0, none⟩, l1, gc⟩) (p.set k2 (l ++ [q])) ∧ Turn (Mine ⟨some ⟨g, 0, none⟩, pl, pc⟩ V) w6 (w7.setCell ⟨g, k2, none⟩ (.slice (some ⟨g3, 0, none⟩) l1 gc))) := GR
                  clear hf7 hc7 h7 t7 h7g apC T7x GR hne hxv
                  generalize w7.setCell ⟨g, k2, none⟩ (.slice (some ⟨g3, 0, none⟩) l1 gc) = w8 at GRF ⊢
                  have TF := Lib.hid (TW6.out.and GRF.out.2 (fun i hi hm => by have := (P6.out.mine2 hm).1; omega))
                  have OF := Lib.hid (own_beside P6.out GRF.out.2 OT6.out)
                  have HROWS : Hid (∀ m ∈ p.set k2 (l ++ [q]), m.length ≤ 16) := Lib.hid (fun m hm => by
                    rcases List.mem_or_eq_of_mem_set hm with h | h
                    · exact H16.out m h
                    · rw [h, List.length_append, HLL.out]
                      show ll + 1 ≤ 16
                      omega)
                  go_wp2_with fail
                  go_roundw
                  case rel => exact ⟨i1, p.set k2 (l ++ [q]), ⟨some ⟨g, 0, none⟩, pl, pc⟩, V.set k2 ⟨some ⟨g3, 0, none⟩, l1, gc⟩, rfl, rfl, by omega, by rw [List.length_set, ← HPL.out]; exact hpl8, HROWS, Lib.hid GRF.out.1, TF, OF, HGN⟩
                  case measure => simp [intOf]; omega
        · have h0 : ¬ ((i : Int) < (k : Int) - 1) := by omega
          have HG2 := Lib.hid (parse_one HG1.out HI.out HWH)
          clear HG1
          go_upto_region 10 with fail
          go_wp2_with fail
          refine (CR.out _).mono ?_
          rintro e w4 ⟨t4, ⟨kind, ch, nn, v, ⟨ro, rlen, rcap⟩, els⟩, ok, rfl, hok, hbo⟩
          have T4 := Lib.hid (T.out.trans t4)
          have P4 := Lib.hid (P.out.new t4)
          have OT4 := Lib.hid (own_turn OT.out t4 (fun _ _ => id))
          have HBO := Lib.hid hbo
          have HOKK := Lib.hid hok
          clear t4 hbo hcx hok
          unfold OpV.val Sl.val
          dsimp only
          go_upto_region 13 with fail
          have TA := Lib.hid ((Turn.refl (fun _ => False) w4).alloc (.cells #[.int .i64 kind, .int .i64 ch, .int .i64 nn, .int .i64 v, .slice ro rlen rcap, .bool els] 25))
          have D : Hid (Six (w4.alloc (.cells #[.int .i64 kind, .int .i64 ch, .int .i64 nn, .int .i64 v, .slice ro rlen rcap, .bool els] 25)) w4.heap.size kind ch nn v (.slice ro rlen rcap) els) := Lib.hid (blk_new w4 _ 25)
          obtain ⟨bx, hbx⟩ : ∃ b, w4.heap.size = b := ⟨_, rfl⟩
          rw [hbx] at D ⊢
          clear hbx
          generalize w4.alloc (.cells #[.int .i64 kind, .int .i64 ch, .int .i64 nn, .int .i64 v, .slice ro rlen rcap, .bool els] 25) = w5 at TA D ⊢
          have T5 := Lib.hid (T4.out.trans TA.out)
          have P5 := Lib.hid (P4.out.new TA.out)
          have OT5 := Lib.hid (own_turn OT4.out TA.out (fun _ _ => id))
          have BO5 : Hid (∀ q, readT x = some q → BOp w5 40 ⟨kind, ch, nn, v, ⟨ro, rlen, rcap⟩, els⟩ q) := Lib.hid (fun q hq => (HBO.out q hq).new TA.out)
          have hgb : g0 ≤ w5.heap.size := by have := T5.out.size; omega
          have TR := T5
          clear TA T4 P4 OT4 HBO T P OT
          have hcg0 := True.intro
          by_cases hgo : x = wGo
          · have hq := lit_text x wGo (b := true) (by rw [decide_eq_true_eq]; exact hgo)
            unfold wGo at hq
            rw [HX0.out] at hq
            have hrd : readT x = none := by rw [hgo]; exact readT_go
            rcases Nat.lt_or_ge pl 8 with hp8 | hp8
            · have HG3 : Hid (parseG true ((W.take k).drop i1) i1 (p ++ [[]]) = RES) := Lib.hid (by
                have h := HG2.out
                rw [if_pos ⟨hgo, by rw [← HPL.out]; exact hp8⟩] at h
                rw [HREST.out]
                exact h)
              clear hgo hrd hcg0
              go_upto_region 14 with fail
              have EB := Lib.hid (heap_alloc_new w5 (.cells #[] 25))
              have TB := Lib.hid ((Turn.refl (fun _ => False) w5).alloc (.cells #[] 25))
              have P6 := Lib.hid (P5.out.new TB.out)
              have OT6 := Lib.hid (own_turn OT5.out TB.out (fun _ _ => id))
              have T6 := Lib.hid (T5.out.trans TB.out)
              have HD : Hid (∀ (b i : Nat) (q : Sl), (⟨some ⟨w5.heap.size, 0, none⟩, 0, 0⟩ : Sl).val.ownBlock = some b → V[i]? = some q → q.val.ownBlock ≠ some b) := Lib.hid (fun b i q hb hq hqb => by
                have e : w5.heap.size = b := by simpa [Sl.val, Value.ownBlock] using hb
                have hi : i < p.length := by rw [← P5.out.many]; exact (List.getElem?_eq_some_iff.1 hq).1
                have := ((P5.out.rows i q _ hq (List.getElem?_eq_getElem hi)).low b hqb).2
                omega)
              have GO6 : Hid (GOps (w5.alloc (.cells #[] 25)) 40 25 g0 ⟨some ⟨w5.heap.size, 0, none⟩, 0, 0⟩ []) := Lib.hid (GOps.made EB.out hgb)
              obtain ⟨k1, hk1⟩ : ∃ n, pl + 1 = n := ⟨_, rfl⟩
              have HK1 := Lib.hid (show p.length + 1 = k1 by rw [← HPL.out]; exact hk1)
              have hk8 : k1 ≤ 8 := by omega
              have hgb6 : g0 ≤ (w5.alloc (.cells #[] 25)).heap.size := Nat.le_trans hgb TB.out.size
              have hsz : (w5.alloc (.cells #[] 25)).heap.size = w5.heap.size + 1 := by simp
              have HSZ := Lib.hid hsz
              clear hk1 hsz
              go_wp2_with (at_builtin; refine wpList_append_row (by decide) (by decide) Tryd.underlying22 info_ops rfl (by decide) rfl (.tmp 59) (.tmp 61) rfl ⟨po, pl, pc⟩ V p ⟨some ⟨w5.heap.size, 0, none⟩, 0, 0⟩ rfl rfl P6.out GO6.out HD.out (by rw [HSZ.out]; rfl) k1 HK1.out (by omega) hgb6 ?_; intro g gc w7 hg h7 t7)
              go_roundw
              case rel => exact ⟨i1, p ++ [[]], ⟨some ⟨g, 0, none⟩, k1, gc⟩, V ++ [⟨some ⟨w5.heap.size, 0, none⟩, 0, 0⟩], rfl, rfl, by omega, by rw [List.length_append]; show p.length + 1 ≤ 8; rw [HK1.out]; exact hk8, Lib.hid (fun m hm => by
                rcases List.mem_append.1 hm with h | h
                · exact H16.out m h
                · rw [List.mem_singleton] at h
                  subst h
                  exact Nat.zero_le _), h7, Lib.hid (T6.out.and t7.out (fun i hi hm => by have := P6.out.low i hm; omega)), Lib.hid (own_beside P6.out (t7.out.mono fun _ _ e => Or.inl e) OT6.out), HG3⟩
              case measure => simp [intOf]; omega
            · obtain rfl : pl = 8 := by omega
              have HNO : Hid (RES = ([], i1)) := Lib.hid (by
                have h := HG2.out
                rw [if_neg (by rintro ⟨_, h⟩; rw [← HPL.out] at h; omega), hrd] at h
                exact h.symm)
              have hok := HOKK.out
              rw [hrd] at hok
              replace hok : ok = false := hok
              subst hok
              clear hgo hrd hcg0
              go_wp2_with fail
              go_ret2
              exact gives_no (show FIN = _ from HFIN.out.trans ((if_neg (by omega)).trans HNO.out)) TR.out
          · have hq := lit_text x wGo (b := false) (by rw [decide_eq_false_iff_not]; exact hgo)
            unfold wGo at hq
            rw [HX0.out] at hq
            obtain ⟨RD, hRD⟩ : ∃ o, readT x = o := ⟨_, rfl⟩
            have HRD := Lib.hid hRD
            have hok := HOKK.out
            rw [hRD] at hok BO5
            have HG3 := Lib.hid (show (match readT x with | none => ([], i1) | some o => if p = [] ∨ 16 ≤ lastLen p then ([], i1) else parseG true rest i1 (more p o)) = RES by
              have h := HG2.out
              rw [if_neg (fun hh => hgo hh.1)] at h
              exact h)
            clear hgo hRD HG2 HOKK
            cases RD with
            | none =>
              replace hok : ok = false := hok
              subst hok
              have HNO : Hid (RES = ([], i1)) := Lib.hid (by have h := HG3.out; rw [HRD.out] at h; exact h.symm)
              clear hcg0
              go_wp2_with fail
              go_ret2
              exact gives_no (show FIN = _ from HFIN.out.trans ((if_neg (by omega)).trans HNO.out)) TR.out
            | some q =>
              replace hok : ok = true := hok
              subst hok
              have BO5 := Lib.hid (BO5.out q rfl)
              have HG4 := Lib.hid (show (if p = [] ∨ 16 ≤ lastLen p then ([], i1) else parseG true rest i1 (more p q)) = RES by have h := HG3.out; rw [HRD.out] at h; exact h)
              clear hcg0
              rcases Nat.eq_zero_or_pos pl with hp0 | hp0
              · have hz : ((pl : Int) == 0) = true := by rw [hp0]; rfl
                have HNO : Hid (RES = ([], i1)) := Lib.hid (by
                  have h := HG4.out
                  rw [if_pos (Or.inl (List.eq_nil_of_length_eq_zero (by rw [← HPL.out]; exact hp0)))] at h
                  exact h.symm)
                clear hp0
                go_wp2_with fail
                go_ret2
                exact gives_no (show FIN = _ from HFIN.out.trans ((if_neg (by omega)).trans HNO.out)) TR.out
              · obtain ⟨k2, hk2⟩ : ∃ k, pl = k + 1 := ⟨pl - 1, by omega⟩
                have hz : ((pl : Int) == 0) = false := by rw [beq_eq_false_iff_ne]; omega
                have hJ : (pl : Int) - 1 = (k2 : Int) := by omega
                have hkl : k2 < pl := by omega
                have hk7 : k2 ≤ 7 := by omega
                have hkW : IntKind.i64.wrap (k2 : Int) = (k2 : Int) := IntWalk.i64_in _ (by omega)
                have hkI : (k2 : Int) < (pl : Int) := by omega
                have hk0 : decide ((k2 : Int) < 0) = false := by rw [decide_eq_false_iff_not]; omega
                have HK := Lib.hid (show p.length = k2 + 1 by rw [← HPL.out]; exact hk2)
                obtain ⟨x2, hx2⟩ : ∃ x, V[k2]? = some x := ⟨_, List.getElem?_eq_getElem (by rw [P5.out.many, HK.out]; omega)⟩
                obtain ⟨l, hl2⟩ : ∃ l, p[k2]? = some l := ⟨_, List.getElem?_eq_getElem (by rw [HK.out]; omega)⟩
                obtain ⟨g, hao, hgb2, hcg, hfg, gcur, hgt⟩ := P5.out.at hx2
                dsimp only at hao
                subst hao
                have hX := P5.out.rows k2 x2 l hx2 hl2
                obtain ⟨xao, xlen, xcap⟩ := x2
                obtain rfl : xlen = l.length := hX.len
                have hl16 := H16.out l (List.mem_of_getElem? hl2)
                have hlast : lastLen p = l.length := by
                  unfold lastLen
                  rw [List.getLast?_eq_getElem?, HK.out]
                  show (p[k2]?.getD []).length = _
                  rw [hl2]
                  rfl
                have HLAST := Lib.hid hlast
                have HX := Lib.hid hX
                have HXV := Lib.hid hx2
                have HLV := Lib.hid hl2
                have HGT := Lib.hid (And.intro hgt hgb2)
                obtain ⟨ll, hll⟩ : ∃ n, l.length = n := ⟨_, rfl⟩
                have HLL := Lib.hid hll
                rw [hll] at hcg hl16
                unfold Sl.val at hcg
                dsimp only at hcg
                clear hX hx2 hl2 hlast hk2 hgt hgb2 hll hfg hp0
                by_cases he : ll = 16
                · subst he
                  have HNO : Hid (RES = ([], i1)) := Lib.hid (by
                    have h := HG4.out
                    rw [if_pos (Or.inr (by rw [HLAST.out, HLL.out]; exact Nat.le_refl _))] at h
                    exact h.symm)
                  go_wp2_with fail
                  go_ret2
                  exact gives_no (show FIN = _ from HFIN.out.trans ((if_neg (by omega)).trans HNO.out)) TR.out
                · have hl15 : ¬ (ll : Int) ≥ 16 := by omega
                  have HGN : Hid (parseG true ((W.take k).drop i1) i1 (p.set k2 (l ++ [q])) = RES) := Lib.hid (by
                    have h := HG4.out
                    rw [if_neg, more_set q HK.out HLV.out] at h
                    · rw [HREST.out]; exact h
                    · rintro (h | h)
                      · have := HK.out
                        rw [h] at this
                        simp at this
                      · rw [HLAST.out, HLL.out] at h
                        omega)
                  obtain ⟨l1, hl1⟩ : ∃ n, ll + 1 = n := ⟨_, rfl⟩
                  have HL1 := Lib.hid hl1
                  have hl17 : l1 ≤ 17 := by omega
                  clear hl1 he
                  have hl16 : ll ≤ 15 := by omega
                  have T2 := T5
                  have BO2 := BO5
                  have KEEP := Lib.hid (show ∀ w', Turn (fun _ => False) w5 w' → (w'.cell? ⟨g, k2, none⟩ = some (.slice xao ll xcap) ∧ w'.cell? ⟨bx, 0, none⟩ = some (.int .i64 kind) ∧ w'.cell? ⟨bx, 1, none⟩ = some (.int .i64 ch) ∧ w'.cell? ⟨bx, 2, none⟩ = some (.int .i64 nn) ∧ w'.cell? ⟨bx, 3, none⟩ = some (.int .i64 v) ∧ w'.cell? ⟨bx, 4, none⟩ = some (.slice ro rlen rcap) ∧ w'.cell? ⟨bx, 5, none⟩ = some (.bool els)) from fun w' t => ⟨t.cell id hcg, (D.out.new t).cells.1⟩)
                  go_upto_region 17 with fail
                  have TD := Lib.hid (Turn.refl (fun _ => False) w5).drew
                  clear hcg
                  refine stand_start (by kernel_rfl) 12 (fun w' => w'.cell? ⟨g, k2, none⟩ = some (.slice xao ll xcap) ∧ w'.cell? ⟨bx, 0, none⟩ = some (.int .i64 kind) ∧ w'.cell? ⟨bx, 1, none⟩ = some (.int .i64 ch) ∧ w'.cell? ⟨bx, 2, none⟩ = some (.int .i64 nn) ∧ w'.cell? ⟨bx, 3, none⟩ = some (.int .i64 v) ∧ w'.cell? ⟨bx, 4, none⟩ = some (.slice ro rlen rcap) ∧ w'.cell? ⟨bx, 5, none⟩ = some (.bool els)) 99 (fun w' => True) (KEEP.out _ TD.out) trivial ?_
                  generalize w5.drew = wd at TD ⊢
                  refine stand_take (i := 0) (v := ?_) rfl (by kernel_rfl) (by kernel_rfl) (by kernel_rfl) (by rfl) (fun _ _ _ h => h) (by decide) (by decide) (by rfl) ?_ ?_
                  rotate_left
                  · (intro w; go_simp; try with_reducible rfl)
                  dsimp only [List.set_cons_zero, List.set_cons_succ]
                  refine stand_take (i := 1) (v := ?_) rfl (by kernel_rfl) (by kernel_rfl) (by kernel_rfl) (by rfl) (fun _ _ _ h => h) (by decide) (by decide) (by rfl) ?_ ?_
                  rotate_left
                  · (intro w; go_simp; try with_reducible rfl)
                  dsimp only [List.set_cons_zero, List.set_cons_succ]
                  refine stand_take (i := 2) (v := ?_) rfl (by kernel_rfl) (by kernel_rfl) (by kernel_rfl) (by rfl) (fun _ _ _ h => h) (by decide) (by decide) (by rfl) ?_ ?_
                  rotate_left
                  · (intro w; go_simp; try with_reducible rfl)
                  dsimp only [List.set_cons_zero, List.set_cons_succ]
                  refine stand_take (i := 3) (v := ?_) rfl (by kernel_rfl) (by kernel_rfl) (by kernel_rfl) (by rfl) (fun _ _ _ h => h) (by decide) (by decide) (by rfl) ?_ ?_
                  rotate_left
                  · (intro w; go_simp; try with_reducible rfl)
                  dsimp only [List.set_cons_zero, List.set_cons_succ]
                  refine stand_take (i := 4) (v := ?_) rfl (by kernel_rfl) (by kernel_rfl) (by kernel_rfl) (by rfl) (fun _ _ _ h => h) (by decide) (by decide) (by rfl) ?_ ?_
                  rotate_left
                  · (intro w; go_simp; try with_reducible rfl)
                  dsimp only [List.set_cons_zero, List.set_cons_succ]
                  refine stand_take (i := 5) (v := ?_) rfl (by kernel_rfl) (by kernel_rfl) (by kernel_rfl) (by rfl) (fun _ _ _ h => h) (by decide) (by decide) (by rfl) ?_ ?_
                  rotate_left
                  · (intro w; go_simp; try with_reducible rfl)
                  dsimp only [List.set_cons_zero, List.set_cons_succ]
                  refine stand_take (i := 6) (v := ?_) rfl (by kernel_rfl) (by kernel_rfl) (by kernel_rfl) (by rfl) (fun _ _ _ h => h) (by decide) (by decide) (by rfl) ?_ ?_
                  rotate_left
                  · (intro w; go_simp; try with_reducible rfl)
                  dsimp only [List.set_cons_zero, List.set_cons_succ]
                  refine stand_take (i := 7) (v := ?_) rfl (by kernel_rfl) (by kernel_rfl) (by kernel_rfl) (by rfl) (fun _ _ _ h => h) (by decide) (by decide) (by rfl) ?_ ?_
                  rotate_left
                  · (intro w; go_simp; try with_reducible rfl)
                  dsimp only [List.set_cons_zero, List.set_cons_succ]
                  refine stand_take (i := 8) (v := ?_) rfl (by kernel_rfl) (by kernel_rfl) (by kernel_rfl) (by rfl) (fun _ _ _ h => h) (by decide) (by decide) (by rfl) ?_ ?_
                  rotate_left
                  · (intro w; go_simp; try with_reducible rfl)
                  dsimp only [List.set_cons_zero, List.set_cons_succ]
                  refine stand_load1 (i := 9) (v := ?_) rfl (by kernel_rfl) (by kernel_rfl) (by kernel_rfl) (by rfl) (fun _ _ _ h => h) (by decide) (by decide) (by kernel_rfl) (by rfl) ?_ ?_
                  rotate_left
                  · (intro w hA; (try dsimp only at hA); go_simp; try with_reducible rfl)
                  dsimp only [List.set_cons_zero, List.set_cons_succ]
                  refine stand_load1 (i := 10) (v := ?_) rfl (by kernel_rfl) (by kernel_rfl) (by kernel_rfl) (by rfl) (fun _ _ _ h => h) (by decide) (by decide) (by kernel_rfl) (by rfl) ?_ ?_
                  rotate_left
                  · (intro w hA; (try dsimp only at hA); go_simp; try with_reducible rfl)
                  dsimp only [List.set_cons_zero, List.set_cons_succ]
                  refine stand_step (i := 11) (by kernel_rfl) rfl (fun K hK => ?_)
                  go_simp
                  have T6 := Lib.hid (TD.out.alloc (.cells #[.int .i64 kind, .int .i64 ch, .int .i64 nn, .int .i64 v, .slice ro rlen rcap, .bool els] 25))
                  refine hK.out _ _ (fun _ => KEEP.out _ T6.out) (fun _ => trivial) ?_
                  clear hK K
                  try simp only [put_laid, List.set_cons_zero, List.set_cons_succ]
                  have C6 := Lib.hid (heap_alloc_new wd (.cells #[.int .i64 kind, .int .i64 ch, .int .i64 nn, .int .i64 v, .slice ro rlen rcap, .bool els] 25))
                  generalize wd.heap.size = ob at C6 ⊢
                  generalize wd.alloc (.cells #[.int .i64 kind, .int .i64 ch, .int .i64 nn, .int .i64 v, .slice ro rlen rcap, .bool els] 25) = w6 at T6 C6 ⊢
                  have TW6 := Lib.hid (T5.out.trans T6.out)
                  have BO6 := Lib.hid (BO5.out.new T6.out)
                  have P6 := Lib.hid (P5.out.new T6.out)
                  have OT6 := Lib.hid (own_turn OT5.out T6.out (fun _ _ => id))
                  obtain ⟨R, hR1, hR2, hR3⟩ := (HX.out.new T6.out).has
                  have hR2 : w6.ownsRow g0 25 6 (.slice xao ll xcap) ll (flat encOV R) := by rw [← HLL.out]; exact hR2
                  have hb6 : g0 ≤ w6.heap.size := Nat.le_trans hgb T6.out.size
                  have OW := Lib.hid hR2
                  have HRR := Lib.hid (And.intro hR1 hR3)
                  clear hR1 hR2 hR3
                  refine stand_step (i := 12) (by kernel_rfl) rfl (fun K hK => ?_)
                  refine step_append_flat_one encOV_ok (by decide) Tryd.underlying41 info_op rfl (by decide) rfl (.tmp 91) (.tmp 93) rfl g0 (.slice xao ll xcap) R ll rfl OW.out ob ⟨kind, ch, nn, v, ⟨ro, rlen, rcap⟩, els⟩ rfl C6.out l1 HL1.out (by omega) hb6 ?_
                  intro g3 gc w7 hg3 h7 t7 h7g
                  have apC : Apart w6 40 (fun i => (Value.slice xao ll xcap).ownBlock = some i) := apart_own OW.out (by decide)
                  have GY : Hid (GOps w7 40 25 g0 ⟨some ⟨g3, 0, none⟩, l1, gc⟩ (l ++ [q])) := Lib.hid ⟨by rw [List.length_append, HLL.out]; exact HL1.out.symm, R ++ [⟨kind, ch, nn, v, ⟨ro, rlen, rcap⟩, els⟩], by rw [List.length_append, List.length_append, HRR.out.1]; rfl, by
                    have e : (l ++ [q]).length = l1 := by rw [List.length_append, HLL.out]; exact HL1.out
                    rw [e]
                    exact h7.out, snoc_each HRR.out.1 (fun i r o hr ho => (HRR.out.2 i r o hr ho).apart t7.out apC) (BO6.out.apart t7.out apC)⟩
                  have hxv : (⟨xao, l.length, xcap⟩ : Sl).val = .slice xao ll xcap := by unfold Sl.val; rw [HLL.out]
                  have T7x : Turn (fun b => (⟨xao, l.length, xcap⟩ : Sl).val.ownBlock = some b) w6 w7 := by rw [hxv]; exact t7.out
                  have GR := Lib.hid (P6.out.grown (o := q) (by decide) (by decide) (by decide) HXV.out HLV.out rfl T7x GY.out (fun b hb => by
                    have e : g3 = b := by simpa [Sl.val, Value.ownBlock] using hb
                    subst e
                    rw [hxv]
                    exact h7g.out))
                  have hne : ¬ ((Value.slice xao ll xcap).ownBlock = some g) := fun e => by
                    obtain ⟨cur, hc⟩ := own_type OW.out g e
                    rw [T6.out.heap id HGT.out.1] at hc
                    simp at hc
                  have hf7 : w7.frozen? ⟨g, k2, none⟩ = false := by
                    have := t7.out.heap hne (T6.out.heap id HGT.out.1)
                    simp [World.frozen?, this]
                  have hc7 : w7.cell? ⟨g, k2, none⟩ = some (.slice xao ll xcap) := t7.out.cell hne ((KEEP.out _ T6.out).1)
                  refine hK.out _ _ (past (by kernel_rfl)) (fun _ => trivial) ?_
                  clear hK K
                  try simp only [put_laid, List.set_cons_zero, List.set_cons_succ]
                  refine stand_take (i := 13) (v := ?_) rfl (by kernel_rfl) (by kernel_rfl) (by kernel_rfl) (by rfl) (fun _ _ _ h => h) (by decide) (by decide) (by rfl) ?_ ?_
                  rotate_left
                  · (intro w; go_simp; try with_reducible rfl)
                  dsimp only [List.set_cons_zero, List.set_cons_succ]
                  refine stand_step (i := 14) (by kernel_rfl) rfl (fun K hK => ?_)
                  go_simp
                  refine hK.out _ _ (past (by kernel_rfl)) (fun _ => trivial) ?_
                  clear hK K
                  try simp only [put_laid, List.set_cons_zero, List.set_cons_succ]
                  refine stand_done (by kernel_rfl) ?_
                  have GRF : Hid (PG (w7.setCell ⟨g, k2, none⟩ (.slice (some ⟨g3, 0, none⟩) l1 gc)) 40 25 41 g0 ⟨some ⟨g, 0, none⟩, pl, pc⟩ (V.set k2 ⟨some ⟨g3, 0, none⟩, l1, gc⟩) (p.set k2 (l ++ [q])) ∧ Turn (Mine ⟨some ⟨g, 0, none⟩, pl, pc⟩ V) w6 (w7.setCell ⟨g, k2, none⟩ (.slice (some ⟨g3, 0, none⟩) l1 gc))) := GR
                  clear hf7 hc7 h7 t7 h7g apC T7x GR hne hxv
                  generalize w7.setCell ⟨g, k2, none⟩ (.slice (some ⟨g3, 0, none⟩) l1 gc) = w8 at GRF ⊢
                  have TF := Lib.hid (TW6.out.and GRF.out.2 (fun i hi hm => by have := (P6.out.mine2 hm).1; omega))
                  have OF := Lib.hid (own_beside P6.out GRF.out.2 OT6.out)
                  have HROWS : Hid (∀ m ∈ p.set k2 (l ++ [q]), m.length ≤ 16) := Lib.hid (fun m hm => by
                    rcases List.mem_or_eq_of_mem_set hm with h | h
                    · exact H16.out m h
                    · rw [h, List.length_append, HLL.out]
                      show ll + 1 ≤ 16
                      omega)
                  go_wp2_with fail
                  go_roundw
                  case rel => exact ⟨i1, p.set k2 (l ++ [q]), ⟨some ⟨g, 0, none⟩, pl, pc⟩, V.set k2 ⟨some ⟨g3, 0, none⟩, l1, gc⟩, rfl, rfl, by omega, by rw [List.length_set, ← HPL.out]; exact hpl8, HROWS, Lib.hid GRF.out.1, TF, OF, HGN⟩
                  case measure => simp [intOf]; omega
      · have hge : ¬ ((i : Int) < (k : Int)) := by omega
        have HE : Hid (RES = (p, 0)) := Lib.hid (by
          have h := HG.out
          rw [List.drop_of_length_le (by rw [List.length_take, HN.out]; omega)] at h
          exact h.symm)
        obtain ⟨zb, hzb⟩ : ∃ b, (((k : Nat) : Int) == 0) = b := ⟨_, rfl⟩
        cases zb
        · have HFE : Hid (FIN = (p, 0)) := Lib.hid (by
            rw [HFIN.out, if_neg, HE.out]
            rw [beq_eq_false_iff_ne] at hzb
            omega)
          go_wp2_with fail
          go_ret2
          exact gives_l (sl := ⟨po, pl, pc⟩) (n := 0) T.out (by rw [HFE.out]) (by rw [HFE.out]; exact P.out.plan.reads)
        · have HFE : Hid (FIN = ([], 1)) := Lib.hid (by
            rw [HFIN.out, if_pos]
            have := eq_of_beq hzb
            omega)
          go_wp2_with fail
          go_ret2
          exact gives_no HFE.out T.out
end Go.Proofs.YtfghabjpcjcllaaDoor
