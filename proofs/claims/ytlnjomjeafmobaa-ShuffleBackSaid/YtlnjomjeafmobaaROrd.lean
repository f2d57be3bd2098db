/- The contracts of the document's own Order and Draws. -/
import Derived.Test.YtlnjomjeafmobaaDrw
import Derived.RegionTactic
import Derived.ChangeAlike
namespace Go.Proofs.Ytlnjomjeafmobaa
open Go.RowKit
set_option linter.unusedVariables false

theorem own_cells {w : World} {base g n c : Nat} {L : List Int} (h : w.ownsRow base 3 1 (.slice (some ⟨g, 0, none⟩) n c) n (L.map (Value.int .i64))) {j : Nat} (hj : j < n) :
    w.cell? ⟨g, j, none⟩ = some (.int .i64 (L.getD j 0)) ∧ w.frozen? ⟨g, j, none⟩ = false := by
  have hl : L.length = n := by have := h.1; simpa using this
  subst hl
  obtain ⟨ao, c', e, hi, _, _, hb⟩ := ints_of_own h
  cases e
  obtain ⟨g', e, hg, cur, hh, hc⟩ := hb (by omega)
  cases e
  exact ⟨by simp [World.cell?, hh, hc j hj], by simp [World.frozen?, hh]⟩

/-- 'append(v, y)' onto a row of the call's own. -/
theorem wpList_append_one {w0 : World} {ops : Array Oper} {rest : List Oper} {o : Oper} {a : Act} {Q : Exit → Act → World → Prop} (hgd : o.guard = none) (s x : Operand)
    (ho : o.op = .call { callee := .builtin .append, args := #[s, x], argTypes := #[22, 22] }) (base : Nat) (v : Value) (L : List Int) (n : Nat) (y : Int) (hs : a.eval s = v) (hown : w0.ownsRow base 3 1 v L.length (L.map (Value.int .i64))) (hln : L.length = n)
    (hx : a.eval x = .slice (some ⟨w0.heap.size, 0, none⟩) 1 1) (hl : n ≤ 100000) (hb : base ≤ w0.heap.size)
    (h : ∀ g c w', base ≤ g → Hid (w'.ownsRow base 3 1 (.slice (some ⟨g, 0, none⟩) (n + 1) c) (n + 1) ((L ++ [y]).map (Value.int .i64))) → Hid (Turn (fun i => base ≤ i) w0 w') → wpList Try.prog ops Q rest (a.put o.dst (.slice (some ⟨g, 0, none⟩) (n + 1) c)) w') :
    wpList Try.prog ops Q (o :: rest) a (w0.alloc (.cells #[.int .i64 y] 3)) := by
  obtain ⟨i0, hi, hz0, hz1, hz2⟩ := info_parts info_int
  subst hln
  refine wpList_append_own _ hgd s x 22 ho base 3 i0 (.int .i64 0) 1 8 Try.underlying22 hi hz0 hz1 hz2 rfl (by decide) v L.length (L.map (Value.int .i64)) hs (hown.alloc _) ⟨w0.heap.size, 0, none⟩ 1 1 [.int .i64 y] hx rfl ?_ (by simp [Value.oneCell']) (by unfold maxLen; omega) (by omega) (by simp; omega) ?_
  · intro j u hu
    match j, hu with
    | 0, hu => simp at hu; subst hu; simp [go_sem]
  · intro v' w' h1 h2 _
    have ht : Turn (fun i => base ≤ i) w0 w' := ((Turn.refl _ w0).alloc _).grown h2 (fun k hk => .inl (hown.lt k hk).1)
    have hm : L.map (Value.int .i64) ++ [.int .i64 y] = (L ++ [y]).map (Value.int .i64) := by simp
    rw [hm] at h1
    rcases h1.2 with ⟨_, h0⟩ | ⟨g, cap, cur, rfl, hb', _⟩
    · omega
    · exact h g cap w' hb' h1 ht

theorem rcounts_any (d : Int) (n : Nat) (h0 : 0 < n) (hn : n ≤ 1000) (h1 : -9223372036854775808 ≤ d) (h2 : d ≤ 9223372036854775807) (w : World) :
    Calls Try.prog 23 #[.int .i64 d, .int .i64 n] w fun e w' => e = .returned (.int .i64 (cnt d n)) ∧ w = w' := by
  have HC := Lib.hid (cnt_cast d n h0)
  rw [HC.out]
  have hz : ¬ ((n : Int) = 0) := by omega
  by_cases hd : 0 ≤ d
  · have hm := Int.emod_nonneg d (b := (n : Int)) (by omega)
    have hm2 := Int.emod_lt_of_pos d (b := (n : Int)) (by omega)
    go_enter Try.func23, Try.ntmps23
    go_wp2
    go_ret
    exact ⟨ret_int (by simp), rfl⟩
  · obtain ⟨t1, t2, t3, t4⟩ := tmod_neg d n (by omega) h0
    have T3 := Lib.hid t3
    have T4 := Lib.hid t4
    clear t3 t4
    go_enter Try.func23, Try.ntmps23
    go_wp2
    go_ret
    refine ⟨ret_int ?_, rfl⟩
    by_cases h : d.tmod n = 0
    · rw [T3.out h, h]; simp
    · rw [T4.out (by omega)]; first | (rw [Int.emod_eq_of_lt (by omega) (by omega)]) | (rw [← Int.add_emod_right, Int.emod_eq_of_lt (by omega) (by omega)])

theorem Ints.take {k : IntKind} {w : World} {ao : Option Addr} {L : List Int} (h : Ints k w ao L) (m : Nat) : Ints k w ao (L.take m) := by
  intro j hj
  have hj' : j < m ∧ j < L.length := by simp at hj; omega
  obtain ⟨a, e, hc⟩ := h j hj'.2
  refine ⟨a, e, ?_⟩
  rw [hc]
  simp [List.getD, hj'.1]

theorem Wf.take {L : List Int} (h : Wf L) (m : Nat) : Wf (L.take m) := fun x hx => h x (List.mem_of_mem_take hx)

theorem fresh_empty (w : World) : Fresh w (w.alloc (.cells #[] 3)) (.slice (some ⟨w.heap.size, 0, none⟩) 0 0) [] :=
  ⟨World.ownsRow_made w #[] 0 (Nat.le_refl _) (Nat.zero_le _) rfl, (Turn.refl _ _).alloc _⟩

theorem rcounts_succ (d : Int) (m : Nat) (hn : m < 1000) (h1 : -9223372036854775808 ≤ d) (h2 : d ≤ 9223372036854775807) (w : World) :
    Calls Try.prog 23 #[.int .i64 d, .int .i64 ((m : Int) + 1)] w fun e w' => e = .returned (.int .i64 (cnt d (m + 1))) ∧ w = w' := by
  have := rcounts_any d (m + 1) (by omega) (by omega) h1 h2 w
  rwa [show ((m + 1 : Nat) : Int) = (m : Int) + 1 by omega] at this

set_option maxHeartbeats 2000000 in
theorem rorder_any (n : Nat) : ∀ {ao : Option Addr} {cap : Nat} {D : List Int} (w : World), D.length = n → Ints .i64 w ao D → D.length ≤ cap → n ≤ 1000 → Wf D →
    Calls Try.prog 13 #[.slice ao D.length cap] w fun e w' => ∃ v, e = .returned v ∧ Fresh w w' v (ordL D) := by
  induction n with
  | zero =>
    intro ao cap D w hn hr hcap hl hw
    obtain rfl : D = [] := List.eq_nil_of_length_eq_zero hn
    clear hr hn hw hcap
    rw [show ([] : List Int).length = 0 from rfl]
    go_enter Try.func13, Try.ntmps13
    go_wp2_with fail
    go_ret
    exact ⟨_, rfl, fresh_empty w⟩
  | succ m ih =>
    intro ao cap D w hn hr hcap hl hw
    obtain ⟨ad, hao, hc⟩ := hr m (by omega)
    subst hao
    have hwf := hw.at_ (i := m) (by omega)
    have HR := Lib.hid hr
    have hlt : (D.take m).length = m := by simp; omega
    have IH := Lib.hid (fun (w : World) (hr : Ints .i64 w (some ad) (D.take m)) => ih (cap := cap) w hlt hr (by omega) (by omega) (hw.take m))
    rw [hlt] at IH
    have HS : Hid (ordL D = ostep (ordL (D.take m)) (D.getD m 0)) := Lib.hid (by
      rw [← ordL_snoc, ← show D.take (m + 1) = D.take m ++ [D.getD m 0] by rw [List.take_succ_eq_append_getElem (by omega)]; simp [List.getD, show m < D.length by omega], ← hn, List.take_length])
    have hol : (ordL (D.take m)).length = m := by rw [ordL_length]; exact hlt
    obtain ⟨O, hO⟩ : ∃ O, O = ordL (D.take m) := ⟨_, rfl⟩
    rw [← hO] at HS hol
    rw [← hO] at IH
    obtain ⟨x, hx⟩ : ∃ x, x = D.getD m 0 := ⟨_, rfl⟩
    rw [← hx] at HS hwf hc
    rw [HS.out]
    have HN := Lib.hid hn
    have HX := Lib.hid hx
    rw [hn] at hcap ⊢
    have hw0 := Lib.hid hw
    clear hx hO hlt hr hw hn ih
    go_enter Try.func13, Try.ntmps13
    go_wp2_with (first
      | (go_at_call 13; refine (IH.out _ (HR.out.take m)).mono ?_; rintro e w1 ⟨v1, rfl, f1⟩; have F1 := Lib.hid f1; clear f1)
      | (at_builtin; refine wpList_append_one rfl (.tmp 15) (.tmp 18) rfl w.heap.size v1 O m (m : Int) rfl (by have := F1.out.1; exact this) hol rfl (by omega) F1.out.2.size ?_; intro g c2 w2 hg H2 T2; have hcD := (F1.out.2.and T2.out (fun i hi h => absurd hi (by omega))).cell (p := ad.add m) id hc)
      | (go_at_call 23; refine (rcounts_succ x m (by omega) hwf.1 hwf.2 _).mono ?_; rintro e w3 ⟨rfl, rfl⟩))
    have hkl := cnt_lt x (m + 1) (by omega)
    obtain ⟨k, hk⟩ : ∃ k, k = cnt x (m + 1) := ⟨_, rfl⟩
    rw [← hk] at hkl ⊢
    have HK := Lib.hid hk
    have T1 := Lib.hid (F1.out.2.and T2.out (fun i hi h => absurd hi (by omega)))
    clear hk hcD hc hwf IH F1
    obtain ⟨cm, fm⟩ := own_cells H2.out (j := m) (by omega)
    obtain ⟨ck, fk⟩ := own_cells H2.out (j := k) (by omega)
    rw [show (O ++ [(m : Int)]).getD m 0 = (m : Int) by simp [List.getD, ← hol]] at cm
    obtain ⟨y, hy⟩ : ∃ y, y = (O ++ [(m : Int)]).getD k 0 := ⟨_, rfl⟩
    rw [← hy] at ck
    have HY := Lib.hid hy
    clear hy
    obtain ⟨o1, q1⟩ := H2.out.stored k (.int .i64 m)
    have e1 : (List.map (Value.int .i64) (O ++ [(m : Int)])).set k (.int .i64 m) = ((O ++ [(m : Int)]).set k (m : Int)).map (Value.int .i64) := by rw [List.map_set]
    rw [e1] at o1
    have cm2 := (own_cells o1 (j := m) (by omega)).1
    obtain ⟨z, hz⟩ : ∃ z, z = ((O ++ [(m : Int)]).set k (m : Int)).getD m 0 := ⟨_, rfl⟩
    rw [← hz] at cm2
    obtain ⟨o2, q2⟩ := o1.stored m (.int .i64 y)
    have O2 := Lib.hid o2
    have T3 := Lib.hid ((T1.out.setCell (p := ⟨g, k, none⟩) (Or.inr hg) (.int .i64 m)).setCell (p := ⟨g, m, none⟩) (Or.inr hg) (.int .i64 y))
    clear hz e1 o1 o2 q1 q2
    go_region
    all_goals
      go_wp2
      go_ret
      refine ⟨_, rfl, ?_, T3.out.drew⟩
      rw [show (ostep O x).length = m + 1 by rw [ostep_length, hol], ← swap_ostep hol HK.out HY.out]
      have := O2.out
      rwa [← List.map_set] at this

end Go.Proofs.Ytlnjomjeafmobaa
