/- The contract of the document's own Draws. -/
import Derived.Test.YtlnjomjeafmobaaROrd
namespace Go.Proofs.Ytlnjomjeafmobaa
open Go.RowKit
set_option linter.unusedVariables false

theorem DrawsPost.yes {L : List Int} {w : World} {e : Ending} {w' : World} (h : DrawsPost L w e w') (ho : IsOrd L) : ∃ v, e = .returned (.tuple #[v, .bool true]) ∧ Fresh w w' v (drs L.length L) := by
  rcases h with ⟨_, h⟩ | ⟨h, _⟩
  · exact h
  · exact absurd ho h
theorem own_less {w : World} {base base' n : Nat} {v : Value} {xs : List Value} (h : w.ownsRow base 3 1 v n xs) (hb : base' ≤ base) : w.ownsRow base' 3 1 v n xs := by
  refine ⟨h.1, ?_⟩
  rcases h.2 with h1 | ⟨g, cap, cur, h1, h2, h3⟩
  · exact .inl h1
  · exact .inr ⟨g, cap, cur, h1, Nat.le_trans hb h2, h3⟩
theorem own_form {w : World} {base n : Nat} {v : Value} {xs : List Value} (h : w.ownsRow base 3 1 v n xs) (hn : 0 < n) : ∃ g c, v = .slice (some ⟨g, 0, none⟩) n c ∧ base ≤ g ∧ n ≤ c ∧ c ≤ maxLen := by
  rcases h.2 with ⟨_, h1⟩ | ⟨g, cap, cur, h1, h2, _, h3, h4, _⟩
  · omega
  · exact ⟨g, cap, h1, h2, h3, h4⟩
theorem own_ints {w : World} {base g n c : Nat} {L : List Int} (h : w.ownsRow base 3 1 (.slice (some ⟨g, 0, none⟩) n c) n (L.map (Value.int .i64))) : Ints .i64 w (some ⟨g, 0, none⟩) L := by
  intro j hj
  have hl : L.length = n := by have := h.1; simpa using this
  refine ⟨_, rfl, ?_⟩
  rw [Addr.add_lit]
  simpa using (own_cells h (j := j) (by omega)).1
theorem own_put {w : World} {base g n c : Nat} {L M : List Int} (h : w.ownsRow base 3 1 (.slice (some ⟨g, 0, none⟩) n c) n (L.map (Value.int .i64))) (j : Nat) (x : Int) (e : L.set j x = M) :
    (w.setCell ⟨g, j, none⟩ (.int .i64 x)).ownsRow base 3 1 (.slice (some ⟨g, 0, none⟩) n c) n (M.map (Value.int .i64)) := by
  have := (h.stored j (.int .i64 x)).1
  rwa [← List.map_set, e] at this

set_option maxHeartbeats 4000000 in
theorem rdraws_any (n : Nat) : ∀ (ao : Option Addr) (cap : Nat) (L : List Int) (w : World), L.length = n → Ints .i64 w ao L → L.length ≤ cap → n ≤ 1000 →
    Calls Try.prog 10 #[.slice ao L.length cap] w (DrawsPost L w) := by
  induction n with
  | zero =>
    intro ao cap L w hn hr hcap hl
    obtain rfl : L = [] := List.eq_nil_of_length_eq_zero hn
    clear hn hcap
    go_enter Try.func10, Try.ntmps10
    go_wp2_with fail
    refine (ris_any (L := []) w hr (by simp)).mono ?_
    rintro e w1 ⟨rfl, rfl⟩
    rw [show ordB [] = true from rfl]
    clear hr
    go_wp2_with fail
    go_ret2
    exact .inl ⟨IsOrd.nil, _, rfl, fresh_empty w⟩
  | succ m ih =>
    intro ao cap L w hn hr hcap hl
    have IH : Hid (∀ (ao : Option Addr) (cap : Nat) (L : List Int) (w : World), L.length = m → Ints .i64 w ao L → m ≤ cap → m ≤ 1000 → Calls Try.prog 10 #[.slice ao m cap] w (DrawsPost L w)) :=
      Lib.hid (fun ao cap L w h1 h2 h3 h4 => by have := ih ao cap L w h1 h2 (by omega) h4; rwa [h1] at this)
    have HR := Lib.hid hr
    have HN := Lib.hid hn
    have hL : L.length ≤ 1000 := by omega
    clear ih hn
    go_enter Try.func10, Try.ntmps10
    go_wp2_with fail
    ((with_reducible refine (ris_any w hr hL).mono ?_); rintro e w1 ⟨rfl, rfl⟩)
    by_cases ho : IsOrd L
    · rw [(ordB_iff L).2 ho]
      have HO := Lib.hid ho
      obtain ⟨ad, hao, hc⟩ := hr m (by rw [HN.out]; omega)
      subst hao
      have hpl := (pos_spec ho (by rw [HN.out]; omega)).1
      clear hr ho
      rw [show L.getD m 0 = gt L m from rfl] at hc
      rw [HN.out] at hcap hpl ⊢
      clear hL
      have hz : (((m : Int) + 1) == 0) = false := by rw [beq_eq_false_iff_ne]; omega
      go_wp2_with fail
      go_loop [5, 21] (fun q i => ∃ j k : Nat, j ≤ m + 1 ∧ k ≤ m + 1 ∧ i = .int .i64 j ∧ q = .int .i64 k ∧ Hid (Found L j k)) (fun _ i => m + 1 - (intOf i).toNat)
      case atStart => exact ⟨0, 0, Nat.zero_le _, Nat.zero_le _, rfl, rfl, fun i hi => by omega⟩
      case round =>
        obtain ⟨j, k, hj, hk, rfl, rfl, HF⟩ := hrel
        by_cases hlt : j < m + 1
        · obtain ⟨ad', hao, hc2⟩ := HR.out j (by rw [HN.out]; exact hlt)
          cases hao
          have HY := Lib.hid (HF.out.yes HO.out (by rw [HN.out]; exact hlt))
          have HZ := Lib.hid HF.out.no
          rw [show gt L j = L.getD j 0 from rfl, HN.out] at HY HZ
          obtain ⟨x, hx⟩ : ∃ x, x = L.getD j 0 := ⟨_, rfl⟩
          rw [← hx] at hc2 HY HZ
          clear hx
          by_cases he : x = (m : Int)
          · have HX := Lib.hid (HY.out (by omega))
            subst he
            clear HY HZ
            go_wp2_with fail
            go_round
            case rel => exact ⟨j + 1, j, by omega, by omega, by go_num, rfl, HX⟩
            case measure => simp [intOf]; omega
          · have HX := Lib.hid (HZ.out (by omega))
            have hb : (x == (m : Int)) = false := by rw [beq_eq_false_iff_ne]; exact he
            clear HY HZ he
            go_wp2_with fail
            go_round
            case rel => exact ⟨j + 1, k, by omega, by omega, by go_num, rfl, HX⟩
            case measure => simp [intOf]; omega
        · have hk' : k = pos L := Found.pos (by rw [HN.out, show m + 1 = j by omega]; exact HF.out) HO.out (by rw [HN.out]; omega)
          obtain ⟨p, hp⟩ : ∃ p, p = pos L := ⟨_, rfl⟩
          rw [← hp] at hk' hpl
          subst hk'
          have HP := Lib.hid hp
          obtain ⟨i0, hi0, hz0, hz1, hz2⟩ := info_parts info_int
          have HI := Lib.hid (And.intro hi0 (And.intro hz0 (And.intro hz1 hz2)))
          have HRT := Lib.hid (HR.out.take m)
          have HTL : Hid ((L.take m).length = m) := Lib.hid (by have := HN.out; simp; omega)
          have HUN := Lib.hid (undo_mid HN.out)
          rw [← hp] at HUN
          have HUL : Hid (k = m → L.take m = undo L) := Lib.hid (fun e => undo_last HN.out (by rw [← hp, e]))
          have HDS := Lib.hid (drs_succ HN.out)
          rw [← hp] at HDS
          have HUI := Lib.hid (undo_isOrd HO.out)
          have HUS := Lib.hid (show (undo L).length = m by rw [undo_length, HN.out]; rfl)
          obtain ⟨T, hT⟩ : ∃ T, T = L.take m := ⟨_, rfl⟩
          rw [← hT] at HRT HTL HUN HUL
          obtain ⟨U, hU⟩ : ∃ U, U = undo L := ⟨_, rfl⟩
          rw [← hU] at HUN HUL HDS HUI HUS
          obtain ⟨DU, hDU⟩ : ∃ DU, DU = drs U.length U := ⟨_, rfl⟩
          have HDL := Lib.hid (show DU.length = m by rw [hDU, drs_length]; exact HUS.out)
          have HDU := Lib.hid hDU
          rw [← hDU] at HDS
          obtain ⟨y, hy⟩ : ∃ y, y = gt L m := ⟨_, rfl⟩
          rw [← hy] at hc HUN
          clear hp hi0 hz0 hz1 hz2 HF hT hU hDU hy
          by_cases hkm : k < m
          · clear HUL
            go_wp2_with (first
              | (at_builtin; refine wpList_append_ints rfl (.tmp 32) (.tmp 36) 22 rfl w.heap.size 3 i0 (.int .i64 0) 8 Try.underlying22 HI.out.1 HI.out.2.1 HI.out.2.2.1 HI.out.2.2.2 rfl _ 0 [] rfl (World.ownsRow_made w #[] 0 (Nat.le_refl _) (Nat.zero_le _) rfl) .i64 (some ad) cap T (by rw [HTL.out]; rfl) (by simp) (HRT.out.turn ((Turn.refl (fun _ => False) w).alloc _) (fun _ _ => id)) (by unfold maxLen; rw [HTL.out]; omega) (by rw [HTL.out]; omega) (by simp) ?_; intro v2 w2 H2 hgrow; rw [Nat.zero_add, List.nil_append] at H2; have T2 := Lib.hid (((Turn.refl (fun _ => False) w).alloc _).grown hgrow (fun k hk => Or.inr (by cases hk; exact Nat.le_refl _))); rw [HTL.out] at H2; obtain ⟨g, c2, hv, hg, hc2, hcc⟩ := own_form H2 (by omega); subst hv; have O2 := Lib.hid H2; obtain ⟨ck, fk⟩ := own_cells H2 hkm; have hcD := T2.out.cell (p := ad.add m) id hc; obtain ⟨z, hz⟩ : ∃ z, z = T.getD k 0 := ⟨_, rfl⟩; rw [← hz] at ck; clear H2 hgrow hz)
              | (go_at_call 10; refine (IH.out (some ⟨g, 0, none⟩) c2 U _ HUS.out (own_ints (own_put O2.out k y HUN.out)) hc2 (by omega)).mono ?_; intro e w4 h4; obtain ⟨v4, he4, f4⟩ := h4.yes HUI.out; subst he4; rw [← HDU.out] at f4; have F4 := Lib.hid f4; clear f4 h4)
              | (at_builtin; refine wpList_append_one rfl (.tmp 55) (.tmp 57) rfl _ v4 DU m (k : Int) rfl F4.out.1 HDL.out rfl (by omega) F4.out.2.size ?_; intro g5 c5 w5 hg5 H5 T5))
            · have T3 := Lib.hid ((T2.out.setCell (p := ⟨g, k, none⟩) (Or.inr hg) (.int .i64 y)).trans F4.out.2)
              have hb3 := (T2.out.setCell (p := ⟨g, k, none⟩) (Or.inr hg) (.int .i64 y)).size
              go_ret2
              refine .inl ⟨HO.out, _, rfl, ?_, T3.out.and T5.out (fun i hi h => absurd hi (by omega))⟩
              rw [HDS.out, show (DU ++ [(k : Int)]).length = m + 1 by simp [HDL.out]]
              exact own_less H5.out hb3
          · obtain rfl : k = m := by omega
            have HTU := HUL.out rfl
            subst HTU
            clear HUL HUN hkm
            go_wp2_with (first
              | (at_builtin; refine wpList_append_ints rfl (.tmp 32) (.tmp 36) 22 rfl w.heap.size 3 i0 (.int .i64 0) 8 Try.underlying22 HI.out.1 HI.out.2.1 HI.out.2.2.1 HI.out.2.2.2 rfl _ 0 [] rfl (World.ownsRow_made w #[] 0 (Nat.le_refl _) (Nat.zero_le _) rfl) .i64 (some ad) cap T (by rw [HTL.out]; rfl) (by simp) (HRT.out.turn ((Turn.refl (fun _ => False) w).alloc _) (fun _ _ => id)) (by unfold maxLen; rw [HTL.out]; omega) (by rw [HTL.out]; omega) (by simp) ?_; intro v2 w2 H2 hgrow; rw [Nat.zero_add, List.nil_append] at H2; have T2 := Lib.hid (((Turn.refl (fun _ => False) w).alloc _).grown hgrow (fun k hk => Or.inr (by cases hk; exact Nat.le_refl _))); obtain ⟨ao2, c2, hv, hi2, hc2, hcc, _⟩ := ints_of_own H2; rw [HTL.out] at hv hc2; subst hv; have I2 := Lib.hid hi2; clear H2 hgrow hi2)
              | (go_at_call 10; refine (IH.out ao2 c2 T _ HUS.out I2.out hc2 (by omega)).mono ?_; intro e w4 h4; obtain ⟨v4, he4, f4⟩ := h4.yes HUI.out; subst he4; rw [← HDU.out] at f4; have F4 := Lib.hid f4; clear f4 h4)
              | (at_builtin; refine wpList_append_one rfl (.tmp 55) (.tmp 57) rfl _ v4 DU k (k : Int) rfl F4.out.1 HDL.out rfl (by omega) F4.out.2.size ?_; intro g5 c5 w5 hg5 H5 T5))
            · have T3 := Lib.hid (T2.out.trans F4.out.2)
              have hb3 := T2.out.size
              go_ret2
              refine .inl ⟨HO.out, _, rfl, ?_, T3.out.and T5.out (fun i hi h => absurd hi (by omega))⟩
              rw [HDS.out, show (DU ++ [(k : Int)]).length = k + 1 by simp [HDL.out]]
              exact own_less H5.out hb3
    · rw [ordB_no ho]
      have HO := Lib.hid ho
      clear hr ho
      go_wp2_with fail
      go_ret2
      exact .inr ⟨HO.out, rfl, Turn.refl _ _⟩

end Go.Proofs.Ytlnjomjeafmobaa
