/- The document's: can an op be? -/
import Derived.Test.YtenbafkgfdlfpaaKDSmall
namespace Go.Proofs.Ytenbafkgfdlfpaa
open Go.RowKit
set_option linter.unusedVariables false

theorem rightO_facts {o : Opr} (h : rightO o = true) : 1 ≤ o.kind ∧ o.kind ≤ 9 ∧ 0 ≤ o.ch ∧ o.ch ≤ 8 ∧ 0 ≤ o.n ∧ o.n ≤ 4 ∧ 0 ≤ o.v ∧ o.v ≤ 255 ∧ o.cases.length ≤ 6 ∧ (hasCh o.kind = true ∨ o.ch = 0) ∧ (hasV o.kind = true ∨ o.v = 0) ∧ (o.kind = 1 ∨ o.n = 0) ∧ (o.kind = 9 ∨ (o.els = false ∧ o.cases.length = 0)) ∧ o.cases.all rightC = true := by
  unfold rightO rightF at h
  rw [Bool.and_eq_true] at h
  obtain ⟨h, hc⟩ := h
  simp only [Bool.and_eq_true, Bool.or_eq_true, decide_eq_true_eq, beq_iff_eq, Bool.not_eq_true'] at h
  grind
theorem rightO_of {o : Opr} (h : 1 ≤ o.kind ∧ o.kind ≤ 9 ∧ 0 ≤ o.ch ∧ o.ch ≤ 8 ∧ 0 ≤ o.n ∧ o.n ≤ 4 ∧ 0 ≤ o.v ∧ o.v ≤ 255 ∧ o.cases.length ≤ 6) (h1 : hasCh o.kind = true ∨ o.ch = 0) (h2 : hasV o.kind = true ∨ o.v = 0) (h3 : o.kind = 1 ∨ o.n = 0) (h4 : o.kind = 9 ∨ (o.els = false ∧ o.cases.length = 0)) : rightO o = o.cases.all rightC := by
  unfold rightO rightF
  obtain ⟨b, hb⟩ : ∃ b, o.cases.all rightC = b := ⟨_, rfl⟩
  rw [hb]
  cases b
  · simp
  · simp only [Bool.and_eq_true, Bool.or_eq_true, decide_eq_true_eq, beq_iff_eq, Bool.not_eq_true']
    grind


set_option maxRecDepth 100000 in
set_option maxHeartbeats 8000000 in
theorem rrightop_any (r : OpV) (o : Opr) (b : Bool) (w : World) (ho : ROp w r o) (hb : rightO o = b) : Calls Try.prog 40 #[r.val] w (Says w b) := by
  obtain ⟨kind, ch, n, v, ⟨ao, len, cap⟩, els⟩ := r
  obtain ⟨kind', ch', n', v', L, els'⟩ := o
  obtain ⟨e1, e2, e3, e4, e5, hcs⟩ := ho
  dsimp only at e1 e2 e3 e4 e5 hcs hb
  subst e1 e2 e3 e4 e5
  have hlen : L.length = len := hcs.ok.len.symm
  have HL := Lib.hid hcs.has
  have HN := Lib.hid hlen
  dsimp only at HL
  clear hcs
  unfold OpV.val Says Sl.val
  dsimp only
  rcases (show (kind < 1) ∨ (1 ≤ kind ∧ 9 < kind) ∨ (1 ≤ kind ∧ kind ≤ 9) by omega) with h1 | ⟨h1, h2⟩ | ⟨h1, h2⟩
  · have _u := True.intro
    obtain rfl : b = false := by
      cases b
      · rfl
      · exfalso
        have := rightO_facts hb
        dsimp only at this
        grind
    clear hb
    clear hlen
    go_enter Try.func40, Try.ntmps40
    go_wp2_with fail
    go_ret
    exact ⟨rfl, (Turn.refl _ w).alloc _⟩
  · have _u := True.intro
    obtain rfl : b = false := by
      cases b
      · rfl
      · exfalso
        have := rightO_facts hb
        dsimp only at this
        grind
    clear hb
    clear hlen
    go_enter Try.func40, Try.ntmps40
    go_wp2_with fail
    go_ret
    exact ⟨rfl, (Turn.refl _ w).alloc _⟩
  rcases (show (ch < 0) ∨ (0 ≤ ch ∧ 8 < ch) ∨ (0 ≤ ch ∧ ch ≤ 8) by omega) with h3 | ⟨h3, h4⟩ | ⟨h3, h4⟩
  · have _u := True.intro
    obtain rfl : b = false := by
      cases b
      · rfl
      · exfalso
        have := rightO_facts hb
        dsimp only at this
        grind
    clear hb
    clear hlen
    go_enter Try.func40, Try.ntmps40
    go_wp2_with fail
    go_ret
    exact ⟨rfl, (Turn.refl _ w).alloc _⟩
  · have _u := True.intro
    obtain rfl : b = false := by
      cases b
      · rfl
      · exfalso
        have := rightO_facts hb
        dsimp only at this
        grind
    clear hb
    clear hlen
    go_enter Try.func40, Try.ntmps40
    go_wp2_with fail
    go_ret
    exact ⟨rfl, (Turn.refl _ w).alloc _⟩
  rcases (show (n < 0) ∨ (0 ≤ n ∧ 4 < n) ∨ (0 ≤ n ∧ n ≤ 4) by omega) with h5 | ⟨h5, h6⟩ | ⟨h5, h6⟩
  · have _u := True.intro
    obtain rfl : b = false := by
      cases b
      · rfl
      · exfalso
        have := rightO_facts hb
        dsimp only at this
        grind
    clear hb
    clear hlen
    go_enter Try.func40, Try.ntmps40
    go_wp2_with fail
    go_ret
    exact ⟨rfl, (Turn.refl _ w).alloc _⟩
  · have _u := True.intro
    obtain rfl : b = false := by
      cases b
      · rfl
      · exfalso
        have := rightO_facts hb
        dsimp only at this
        grind
    clear hb
    clear hlen
    go_enter Try.func40, Try.ntmps40
    go_wp2_with fail
    go_ret
    exact ⟨rfl, (Turn.refl _ w).alloc _⟩
  rcases (show (v < 0) ∨ (0 ≤ v ∧ 255 < v) ∨ (0 ≤ v ∧ v ≤ 255) by omega) with h7 | ⟨h7, h8⟩ | ⟨h7, h8⟩
  · have _u := True.intro
    obtain rfl : b = false := by
      cases b
      · rfl
      · exfalso
        have := rightO_facts hb
        dsimp only at this
        grind
    clear hb
    clear hlen
    go_enter Try.func40, Try.ntmps40
    go_wp2_with fail
    go_ret
    exact ⟨rfl, (Turn.refl _ w).alloc _⟩
  · have _u := True.intro
    obtain rfl : b = false := by
      cases b
      · rfl
      · exfalso
        have := rightO_facts hb
        dsimp only at this
        grind
    clear hb
    clear hlen
    go_enter Try.func40, Try.ntmps40
    go_wp2_with fail
    go_ret
    exact ⟨rfl, (Turn.refl _ w).alloc _⟩
  rcases Nat.lt_or_ge 6 len with h9 | h9
  · have _u := True.intro
    obtain rfl : b = false := by
      cases b
      · rfl
      · exfalso
        have := rightO_facts hb
        dsimp only at this
        grind
    clear hb
    clear hlen
    go_enter Try.func40, Try.ntmps40
    go_wp2_with fail
    go_ret
    exact ⟨rfl, (Turn.refl _ w).alloc _⟩
  rcases (show kind = 1 ∨ kind = 9 ∨ (2 ≤ kind ∧ kind ≤ 8) by omega) with rfl | rfl | ⟨k1, k2⟩
  · have B1 : hasCh 1 = false := rfl
    have B2 : hasV 1 = false := rfl
    by_cases q1 : ch ≠ 0
    · have _u := True.intro
      obtain rfl : b = false := by
        cases b
        · rfl
        · exfalso
          have := rightO_facts hb
          dsimp only at this
          grind
      clear hb
      clear hlen
      go_enter Try.func40, Try.ntmps40
      go_wp2_with fail
      refine (rhasch_any _ false _ B1).mono ?_
      rintro e w1 ⟨rfl, rfl⟩
      go_wp2_with fail
      go_ret
      exact ⟨rfl, (Turn.refl _ w).alloc _⟩
    obtain rfl : ch = 0 := Classical.not_not.1 q1
    clear q1
    by_cases q2 : v ≠ 0
    · have _u := True.intro
      obtain rfl : b = false := by
        cases b
        · rfl
        · exfalso
          have := rightO_facts hb
          dsimp only at this
          grind
      clear hb
      clear hlen
      go_enter Try.func40, Try.ntmps40
      go_wp2_with fail
      refine (rhasch_any _ false _ B1).mono ?_
      rintro e w1 ⟨rfl, rfl⟩
      go_wp2_with fail
      refine (rhasv_any _ false _ B2).mono ?_
      rintro e w1 ⟨rfl, rfl⟩
      go_wp2_with fail
      go_ret
      exact ⟨rfl, (Turn.refl _ w).alloc _⟩
    obtain rfl : v = 0 := Classical.not_not.1 q2
    clear q2
    cases els
    · rcases Nat.lt_or_ge 0 len with q4 | q4
      · have _u := True.intro
        obtain rfl : b = false := by
          cases b
          · rfl
          · exfalso
            have := rightO_facts hb
            dsimp only at this
            grind
        clear hb
        clear hlen
        go_enter Try.func40, Try.ntmps40
        go_wp2_with fail
        refine (rhasch_any _ false _ B1).mono ?_
        rintro e w1 ⟨rfl, rfl⟩
        go_wp2_with fail
        refine (rhasv_any _ false _ B2).mono ?_
        rintro e w1 ⟨rfl, rfl⟩
        go_wp2_with fail
        go_ret
        exact ⟨rfl, (Turn.refl _ w).alloc _⟩
      · have _u := True.intro
        have HB := Lib.hid ((rightO_of (o := ⟨1, 0, n, 0, L, false⟩) (by dsimp only; omega) (by first | exact .inl B1 | exact .inr rfl) (by first | exact .inl B2 | exact .inr rfl) (by first | exact .inl rfl | exact .inr rfl) (by first | exact .inl rfl | exact .inr ⟨rfl, by dsimp only; omega⟩)).symm.trans hb)
        dsimp only at HB
        clear hb
        go_enter Try.func40, Try.ntmps40
        go_wp2_with fail
        refine (rhasch_any _ false _ B1).mono ?_
        rintro e w1 ⟨rfl, rfl⟩
        go_wp2_with fail
        refine (rhasv_any _ false _ B2).mono ?_
        rintro e w1 ⟨rfl, rfl⟩
        go_upto_region 6 with fail
        go_loopw [97] (fun s97 wr => ∃ i : Nat, i ≤ len ∧ s97 = .int .i64 i ∧ Hid (∀ (j : Nat) x, j < i → L[j]? = some x → rightC x = true) ∧ Hid (Turn (fun _ => False) w wr)) (fun s97 _ => len - (intOf s97).toNat)
        case atStart => exact ⟨0, Nat.zero_le _, rfl, Lib.hid fun j x hj => absurd hj (Nat.not_lt_zero _), Lib.hid ((Turn.refl _ _).alloc _)⟩
        case round =>
          obtain ⟨i, hi, rfl, HA, HT⟩ := hrel
          by_cases hlt : i < len
          · exact absurd hlt (by omega)
          · have hin : i = len := by omega
            have HIN := Lib.hid hin
            clear hin
            go_wp2_with fail
            go_ret
            refine ⟨ret_bool ?_, HT.out⟩
            rw [← HB.out, all_yes (fun j x hx => HA.out j x (by have := (List.getElem?_eq_some_iff.1 hx).1; have := HIN.out; have := HN.out; omega) hx)]
    · have _u := True.intro
      obtain rfl : b = false := by
        cases b
        · rfl
        · exfalso
          have := rightO_facts hb
          dsimp only at this
          grind
      clear hb
      clear hlen
      go_enter Try.func40, Try.ntmps40
      go_wp2_with fail
      refine (rhasch_any _ false _ B1).mono ?_
      rintro e w1 ⟨rfl, rfl⟩
      go_wp2_with fail
      refine (rhasv_any _ false _ B2).mono ?_
      rintro e w1 ⟨rfl, rfl⟩
      go_wp2_with fail
      go_ret
      exact ⟨rfl, (Turn.refl _ w).alloc _⟩
  · have B1 : hasCh 9 = false := rfl
    have B2 : hasV 9 = false := rfl
    by_cases q1 : ch ≠ 0
    · have _u := True.intro
      obtain rfl : b = false := by
        cases b
        · rfl
        · exfalso
          have := rightO_facts hb
          dsimp only at this
          grind
      clear hb
      clear hlen
      go_enter Try.func40, Try.ntmps40
      go_wp2_with fail
      refine (rhasch_any _ false _ B1).mono ?_
      rintro e w1 ⟨rfl, rfl⟩
      go_wp2_with fail
      go_ret
      exact ⟨rfl, (Turn.refl _ w).alloc _⟩
    obtain rfl : ch = 0 := Classical.not_not.1 q1
    clear q1
    by_cases q2 : v ≠ 0
    · have _u := True.intro
      obtain rfl : b = false := by
        cases b
        · rfl
        · exfalso
          have := rightO_facts hb
          dsimp only at this
          grind
      clear hb
      clear hlen
      go_enter Try.func40, Try.ntmps40
      go_wp2_with fail
      refine (rhasch_any _ false _ B1).mono ?_
      rintro e w1 ⟨rfl, rfl⟩
      go_wp2_with fail
      refine (rhasv_any _ false _ B2).mono ?_
      rintro e w1 ⟨rfl, rfl⟩
      go_wp2_with fail
      go_ret
      exact ⟨rfl, (Turn.refl _ w).alloc _⟩
    obtain rfl : v = 0 := Classical.not_not.1 q2
    clear q2
    by_cases q3 : n ≠ 0
    · have _u := True.intro
      obtain rfl : b = false := by
        cases b
        · rfl
        · exfalso
          have := rightO_facts hb
          dsimp only at this
          grind
      clear hb
      clear hlen
      go_enter Try.func40, Try.ntmps40
      go_wp2_with fail
      refine (rhasch_any _ false _ B1).mono ?_
      rintro e w1 ⟨rfl, rfl⟩
      go_wp2_with fail
      refine (rhasv_any _ false _ B2).mono ?_
      rintro e w1 ⟨rfl, rfl⟩
      go_wp2_with fail
      go_ret
      exact ⟨rfl, (Turn.refl _ w).alloc _⟩
    obtain rfl : n = 0 := Classical.not_not.1 q3
    clear q3
    have HB := Lib.hid ((rightO_of (o := ⟨9, 0, 0, 0, L, els⟩) (by dsimp only; omega) (by first | exact .inl B1 | exact .inr rfl) (by first | exact .inl B2 | exact .inr rfl) (by first | exact .inl rfl | exact .inr rfl) (by first | exact .inl rfl | exact .inr ⟨rfl, by dsimp only; omega⟩)).symm.trans hb)
    dsimp only at HB
    clear hb
    go_enter Try.func40, Try.ntmps40
    go_wp2_with fail
    refine (rhasch_any _ false _ B1).mono ?_
    rintro e w1 ⟨rfl, rfl⟩
    go_wp2_with fail
    refine (rhasv_any _ false _ B2).mono ?_
    rintro e w1 ⟨rfl, rfl⟩
    go_upto_region 6 with fail
    go_loopw [97] (fun s97 wr => ∃ i : Nat, i ≤ len ∧ s97 = .int .i64 i ∧ Hid (∀ (j : Nat) x, j < i → L[j]? = some x → rightC x = true) ∧ Hid (Turn (fun _ => False) w wr)) (fun s97 _ => len - (intOf s97).toNat)
    case atStart => exact ⟨0, Nat.zero_le _, rfl, Lib.hid fun j x hj => absurd hj (Nat.not_lt_zero _), Lib.hid ((Turn.refl _ _).alloc _)⟩
    case round =>
      obtain ⟨i, hi, rfl, HA, HT⟩ := hrel
      by_cases hlt : i < len
      · obtain ⟨x, hx⟩ : ∃ x, L[i]? = some x := ⟨_, List.getElem?_eq_getElem (by rw [HN.out]; exact hlt)⟩
        obtain ⟨a, rfl, hc⟩ := (HL.out.new HT.out) i x hx
        obtain ⟨c0, c1, c2⟩ := cells3 hc
        have HX := Lib.hid hx
        obtain ⟨s, ch', v'⟩ := x
        obtain ⟨f, hf⟩ : ∃ f, rightC ⟨s, ch', v'⟩ = f := ⟨_, rfl⟩
        dsimp only at c0 c1 c2
        clear hx hc
        rcases (show (ch' < 0) ∨ (0 ≤ ch' ∧ 8 < ch') ∨ (0 ≤ ch' ∧ ch' ≤ 8 ∧ v' < 0) ∨ (0 ≤ ch' ∧ ch' ≤ 8 ∧ 0 ≤ v' ∧ 255 < v') ∨ (0 ≤ ch' ∧ ch' ≤ 8 ∧ 0 ≤ v' ∧ v' ≤ 255) by omega) with p1 | ⟨p1, p2⟩ | ⟨p1, p2, p3⟩ | ⟨p1, p2, p3, p4⟩ | ⟨p1, p2, p3, p4⟩
        · have _u := True.intro
          obtain rfl : f = false := by
            rw [← hf]
            unfold rightC
            grind
          have HF := Lib.hid hf
          clear hf
          go_wp2_with fail
          go_ret
          refine ⟨ret_bool ?_, HT.out.alloc _⟩
          rw [← HB.out, all_no HX.out HF.out]
        · have _u := True.intro
          obtain rfl : f = false := by
            rw [← hf]
            unfold rightC
            grind
          have HF := Lib.hid hf
          clear hf
          go_wp2_with fail
          go_ret
          refine ⟨ret_bool ?_, HT.out.alloc _⟩
          rw [← HB.out, all_no HX.out HF.out]
        · have _u := True.intro
          obtain rfl : f = false := by
            rw [← hf]
            unfold rightC
            grind
          have HF := Lib.hid hf
          clear hf
          go_wp2_with fail
          go_ret
          refine ⟨ret_bool ?_, HT.out.alloc _⟩
          rw [← HB.out, all_no HX.out HF.out]
        · have _u := True.intro
          obtain rfl : f = false := by
            rw [← hf]
            unfold rightC
            grind
          have HF := Lib.hid hf
          clear hf
          go_wp2_with fail
          go_ret
          refine ⟨ret_bool ?_, HT.out.alloc _⟩
          rw [← HB.out, all_no HX.out HF.out]
        · cases s
          · by_cases p5 : v' = 0
            · subst p5
              obtain rfl : f = true := by
                rw [← hf]
                unfold rightC
                grind
              have HF := Lib.hid hf
              clear hf
              go_wp2_with fail
              go_roundw
              case rel =>
                refine ⟨i + 1, by omega, by go_num, Lib.hid fun j y hj hy => ?_, Lib.hid (HT.out.alloc _)⟩
                rcases Nat.lt_or_ge j i with h | h
                · exact HA.out j y h hy
                · obtain rfl : j = i := by omega
                  rw [HX.out] at hy
                  obtain rfl := Option.some.inj hy
                  exact HF.out
              case measure => simp [intOf]; omega
            · have p6 : (v' != 0) = true := by simp [p5]
              obtain rfl : f = false := by
                rw [← hf]
                unfold rightC
                grind
              have HF := Lib.hid hf
              clear hf
              go_wp2_with fail
              go_ret
              refine ⟨ret_bool ?_, HT.out.alloc _⟩
              rw [← HB.out, all_no HX.out HF.out]
          · have _u := True.intro
            obtain rfl : f = true := by
              rw [← hf]
              unfold rightC
              grind
            have HF := Lib.hid hf
            clear hf
            go_wp2_with fail
            go_roundw
            case rel =>
              refine ⟨i + 1, by omega, by go_num, Lib.hid fun j y hj hy => ?_, Lib.hid (HT.out.alloc _)⟩
              rcases Nat.lt_or_ge j i with h | h
              · exact HA.out j y h hy
              · obtain rfl : j = i := by omega
                rw [HX.out] at hy
                obtain rfl := Option.some.inj hy
                exact HF.out
            case measure => simp [intOf]; omega
      · have hin : i = len := by omega
        have HIN := Lib.hid hin
        clear hin
        go_wp2_with fail
        go_ret
        refine ⟨ret_bool ?_, HT.out⟩
        rw [← HB.out, all_yes (fun j x hx => HA.out j x (by have := (List.getElem?_eq_some_iff.1 hx).1; have := HIN.out; have := HN.out; omega) hx)]
  · have B1 : hasCh kind = true := by simp [hasCh, k1, k2]
    obtain ⟨v2, B2⟩ : ∃ b, hasV kind = b := ⟨_, rfl⟩
    cases v2
    · by_cases q2 : v ≠ 0
      · have _u := True.intro
        obtain rfl : b = false := by
          cases b
          · rfl
          · exfalso
            have := rightO_facts hb
            dsimp only at this
            grind
        clear hb
        clear hlen
        go_enter Try.func40, Try.ntmps40
        go_wp2_with fail
        refine (rhasch_any _ true _ B1).mono ?_
        rintro e w1 ⟨rfl, rfl⟩
        go_wp2_with fail
        refine (rhasv_any _ false _ B2).mono ?_
        rintro e w1 ⟨rfl, rfl⟩
        go_wp2_with fail
        go_ret
        exact ⟨rfl, (Turn.refl _ w).alloc _⟩
      obtain rfl : v = 0 := Classical.not_not.1 q2
      clear q2
      by_cases q3 : n ≠ 0
      · have _u := True.intro
        obtain rfl : b = false := by
          cases b
          · rfl
          · exfalso
            have := rightO_facts hb
            dsimp only at this
            grind
        clear hb
        clear hlen
        go_enter Try.func40, Try.ntmps40
        go_wp2_with fail
        refine (rhasch_any _ true _ B1).mono ?_
        rintro e w1 ⟨rfl, rfl⟩
        go_wp2_with fail
        refine (rhasv_any _ false _ B2).mono ?_
        rintro e w1 ⟨rfl, rfl⟩
        go_wp2_with fail
        go_ret
        exact ⟨rfl, (Turn.refl _ w).alloc _⟩
      obtain rfl : n = 0 := Classical.not_not.1 q3
      clear q3
      cases els
      · rcases Nat.lt_or_ge 0 len with q4 | q4
        · have _u := True.intro
          obtain rfl : b = false := by
            cases b
            · rfl
            · exfalso
              have := rightO_facts hb
              dsimp only at this
              grind
          clear hb
          clear hlen
          go_enter Try.func40, Try.ntmps40
          go_wp2_with fail
          refine (rhasch_any _ true _ B1).mono ?_
          rintro e w1 ⟨rfl, rfl⟩
          go_wp2_with fail
          refine (rhasv_any _ false _ B2).mono ?_
          rintro e w1 ⟨rfl, rfl⟩
          go_wp2_with fail
          go_ret
          exact ⟨rfl, (Turn.refl _ w).alloc _⟩
        · have _u := True.intro
          have HB := Lib.hid ((rightO_of (o := ⟨kind, ch, 0, 0, L, false⟩) (by dsimp only; omega) (by first | exact .inl B1 | exact .inr rfl) (by first | exact .inl B2 | exact .inr rfl) (by first | exact .inl rfl | exact .inr rfl) (by first | exact .inl rfl | exact .inr ⟨rfl, by dsimp only; omega⟩)).symm.trans hb)
          dsimp only at HB
          clear hb
          go_enter Try.func40, Try.ntmps40
          go_wp2_with fail
          refine (rhasch_any _ true _ B1).mono ?_
          rintro e w1 ⟨rfl, rfl⟩
          go_wp2_with fail
          refine (rhasv_any _ false _ B2).mono ?_
          rintro e w1 ⟨rfl, rfl⟩
          go_upto_region 6 with fail
          go_loopw [97] (fun s97 wr => ∃ i : Nat, i ≤ len ∧ s97 = .int .i64 i ∧ Hid (∀ (j : Nat) x, j < i → L[j]? = some x → rightC x = true) ∧ Hid (Turn (fun _ => False) w wr)) (fun s97 _ => len - (intOf s97).toNat)
          case atStart => exact ⟨0, Nat.zero_le _, rfl, Lib.hid fun j x hj => absurd hj (Nat.not_lt_zero _), Lib.hid ((Turn.refl _ _).alloc _)⟩
          case round =>
            obtain ⟨i, hi, rfl, HA, HT⟩ := hrel
            by_cases hlt : i < len
            · exact absurd hlt (by omega)
            · have hin : i = len := by omega
              have HIN := Lib.hid hin
              clear hin
              go_wp2_with fail
              go_ret
              refine ⟨ret_bool ?_, HT.out⟩
              rw [← HB.out, all_yes (fun j x hx => HA.out j x (by have := (List.getElem?_eq_some_iff.1 hx).1; have := HIN.out; have := HN.out; omega) hx)]
      · have _u := True.intro
        obtain rfl : b = false := by
          cases b
          · rfl
          · exfalso
            have := rightO_facts hb
            dsimp only at this
            grind
        clear hb
        clear hlen
        go_enter Try.func40, Try.ntmps40
        go_wp2_with fail
        refine (rhasch_any _ true _ B1).mono ?_
        rintro e w1 ⟨rfl, rfl⟩
        go_wp2_with fail
        refine (rhasv_any _ false _ B2).mono ?_
        rintro e w1 ⟨rfl, rfl⟩
        go_wp2_with fail
        go_ret
        exact ⟨rfl, (Turn.refl _ w).alloc _⟩
    · by_cases q3 : n ≠ 0
      · have _u := True.intro
        obtain rfl : b = false := by
          cases b
          · rfl
          · exfalso
            have := rightO_facts hb
            dsimp only at this
            grind
        clear hb
        clear hlen
        go_enter Try.func40, Try.ntmps40
        go_wp2_with fail
        refine (rhasch_any _ true _ B1).mono ?_
        rintro e w1 ⟨rfl, rfl⟩
        go_wp2_with fail
        refine (rhasv_any _ true _ B2).mono ?_
        rintro e w1 ⟨rfl, rfl⟩
        go_wp2_with fail
        go_ret
        exact ⟨rfl, (Turn.refl _ w).alloc _⟩
      obtain rfl : n = 0 := Classical.not_not.1 q3
      clear q3
      cases els
      · rcases Nat.lt_or_ge 0 len with q4 | q4
        · have _u := True.intro
          obtain rfl : b = false := by
            cases b
            · rfl
            · exfalso
              have := rightO_facts hb
              dsimp only at this
              grind
          clear hb
          clear hlen
          go_enter Try.func40, Try.ntmps40
          go_wp2_with fail
          refine (rhasch_any _ true _ B1).mono ?_
          rintro e w1 ⟨rfl, rfl⟩
          go_wp2_with fail
          refine (rhasv_any _ true _ B2).mono ?_
          rintro e w1 ⟨rfl, rfl⟩
          go_wp2_with fail
          go_ret
          exact ⟨rfl, (Turn.refl _ w).alloc _⟩
        · have _u := True.intro
          have HB := Lib.hid ((rightO_of (o := ⟨kind, ch, 0, v, L, false⟩) (by dsimp only; omega) (by first | exact .inl B1 | exact .inr rfl) (by first | exact .inl B2 | exact .inr rfl) (by first | exact .inl rfl | exact .inr rfl) (by first | exact .inl rfl | exact .inr ⟨rfl, by dsimp only; omega⟩)).symm.trans hb)
          dsimp only at HB
          clear hb
          go_enter Try.func40, Try.ntmps40
          go_wp2_with fail
          refine (rhasch_any _ true _ B1).mono ?_
          rintro e w1 ⟨rfl, rfl⟩
          go_wp2_with fail
          refine (rhasv_any _ true _ B2).mono ?_
          rintro e w1 ⟨rfl, rfl⟩
          go_upto_region 6 with fail
          go_loopw [97] (fun s97 wr => ∃ i : Nat, i ≤ len ∧ s97 = .int .i64 i ∧ Hid (∀ (j : Nat) x, j < i → L[j]? = some x → rightC x = true) ∧ Hid (Turn (fun _ => False) w wr)) (fun s97 _ => len - (intOf s97).toNat)
          case atStart => exact ⟨0, Nat.zero_le _, rfl, Lib.hid fun j x hj => absurd hj (Nat.not_lt_zero _), Lib.hid ((Turn.refl _ _).alloc _)⟩
          case round =>
            obtain ⟨i, hi, rfl, HA, HT⟩ := hrel
            by_cases hlt : i < len
            · exact absurd hlt (by omega)
            · have hin : i = len := by omega
              have HIN := Lib.hid hin
              clear hin
              go_wp2_with fail
              go_ret
              refine ⟨ret_bool ?_, HT.out⟩
              rw [← HB.out, all_yes (fun j x hx => HA.out j x (by have := (List.getElem?_eq_some_iff.1 hx).1; have := HIN.out; have := HN.out; omega) hx)]
      · have _u := True.intro
        obtain rfl : b = false := by
          cases b
          · rfl
          · exfalso
            have := rightO_facts hb
            dsimp only at this
            grind
        clear hb
        clear hlen
        go_enter Try.func40, Try.ntmps40
        go_wp2_with fail
        refine (rhasch_any _ true _ B1).mono ?_
        rintro e w1 ⟨rfl, rfl⟩
        go_wp2_with fail
        refine (rhasv_any _ true _ B2).mono ?_
        rintro e w1 ⟨rfl, rfl⟩
        go_wp2_with fail
        go_ret
        exact ⟨rfl, (Turn.refl _ w).alloc _⟩

end Go.Proofs.Ytenbafkgfdlfpaa
