/- The document's Push. -/
import Derived.Test.YtgkkmbkialcfiaaRefA
import Derived.Test.YtgkkmbkialcfiaaGAny
namespace Go.Proofs.Ytgkkmbkialcfiaa
open Go.RowKit
set_option linter.unusedVariables false

def RPost (s' : St) (b : Bool) (D : Nat → Prop) (w : World) (e : Ending) (w' : World) : Prop :=
  ∃ ca' cc', e = .returned (.tuple #[.agg #[.int .i64 s'.n, .slice ca' s'.m cc'], .bool b]) ∧ RS w' s' ca' cc' (Dn D w w') ∧ Turn (fun _ => False) w w'

set_option maxHeartbeats 2000000 in
theorem rpush_any {s : St} {ca : Option Addr} {cc : Nat} {D : Nat → Prop} {k x : Int} {b : Bool} (w : World) (h : RS w s ca cc D) (hF : Fine s) (hDb : ∀ i, D i → i < w.heap.size) (hb : pushB s k x = b) :
    Calls Try.prog 11 #[.agg #[.int .i64 s.n, .slice ca s.m cc], .int .i64 k, .int .i64 x] w (RPost (pushS s k x) b D w) := by
  have H := Lib.hid h
  have HF := Lib.hid hF
  have HDB := Lib.hid hDb
  have HB := Lib.hid hb
  have hm := hF.m
  clear h hF hDb hb
  go_enter Try.func11, Try.ntmps11
  go_upto_region 1 with fail
  have TA := Lib.hid ((((Turn.refl (fun _ => False) w).alloc (.cells #[.int .i64 s.n, .slice ca s.m cc] 34)).alloc (.cells #[.int .i64 0, .slice none 0 0] 34)))
  have BX := Lib.hid (show RBox ((w.alloc (.cells #[.int .i64 s.n, .slice ca s.m cc] 34)).alloc (.cells #[.int .i64 0, .slice none 0 0] 34)) w.heap.size s.n ca s.m cc from new2 w _ _)
  have BZ := Lib.hid (show RBox ((w.alloc (.cells #[.int .i64 s.n, .slice ca s.m cc] 34)).alloc (.cells #[.int .i64 0, .slice none 0 0] 34)) (w.heap.size + 1) 0 none 0 0 from new2' w _ _)
  generalize (w.alloc (.cells #[.int .i64 s.n, .slice ca s.m cc] 34)).alloc (.cells #[.int .i64 0, .slice none 0 0] 34) = w1 at TA BX BZ ⊢
  obtain ⟨bx, hbx⟩ : ∃ bx, bx = w.heap.size := ⟨_, rfl⟩
  obtain ⟨rz, hrz⟩ : ∃ rz, rz = w.heap.size + 1 := ⟨_, rfl⟩
  rw [← hrz] at BZ ⊢
  rw [← hbx] at BX ⊢
  have HBZ := Lib.hid (And.intro hbx hrz)
  clear hbx hrz
  have d0 := BX.out.d0
  have d1 := BX.out.d1
  obtain ⟨ib, hib⟩ : ∃ ib, inB s x = ib := ⟨_, rfl⟩
  have HIB := Lib.hid hib
  clear hib
  go_wp2_with fail
  refine (rin_any w1 (H.out.new TA.out) HF.out rfl HIB.out).mono ?_
  rintro e w2 ⟨rfl, t2⟩
  have T2 := Lib.hid (TA.out.trans t2)
  have BX2 := Lib.hid (BX.out.turn t2 id)
  have BZ2 := Lib.hid (BZ.out.turn t2 id)
  clear t2 d0 d1 TA BX BZ
  go_upto_region 2 with fail
  go_cut [37] (fun s37 wx => ∃ b', s37 = .bool b' ∧ Hid (b' = !pushB s k x) ∧ Hid (wx = w2))
  case first =>
    have d0 := BX2.out.d0
    have d1 := BX2.out.d1
    cases ib with
    | true =>
      have hi := HIB.out
      have HR := Lib.hid (push_false (s := s) (k := k) (x := x) (Or.inr (Or.inr hi))).1
      clear hi
      go_wp2_with fail
      go_meet
      exact ⟨_, rfl, Lib.hid (by rw [HR.out]; rfl), Lib.hid rfl⟩
    | false =>
      have hi := HIB.out
      by_cases hk : 0 ≤ k ∧ k < (s.m : Int)
      · obtain ⟨j, rfl⟩ : ∃ j : Nat, k = j := ⟨k.toNat, by omega⟩
        have hj : ¬ s.m ≤ j := by omega
        have hj0 : ¬ (j : Int) < 0 := by omega
        have hq : isQ s j = true := decide_eq_true hk
        by_cases hx : 0 ≤ x ∧ x < (s.n : Int)
        · obtain ⟨y, rfl⟩ : ∃ y : Nat, x = y := ⟨x.toNat, by omega⟩
          have hy : ¬ s.n ≤ y := by omega
          have hy0 : ¬ (y : Int) < 0 := by omega
          have HR := Lib.hid (show pushB s j y = true by unfold pushB isT; rw [hq, hi, decide_eq_true hx]; rfl)
          clear hi hk hq hx
          go_wp2_with fail
          go_meet
          exact ⟨_, rfl, Lib.hid (by rw [HR.out]; simp), Lib.hid rfl⟩
        · have HR := Lib.hid (push_false (s := s) (k := j) (x := x) (Or.inr (Or.inl (decide_eq_false hx)))).1
          clear hi hk hq
          by_cases hx0 : x < 0
          · clear hx
            go_wp2_with fail
            go_meet
            exact ⟨_, rfl, Lib.hid (by rw [HR.out]; simp), Lib.hid rfl⟩
          · have hx1 : (s.n : Int) ≤ x := by omega
            clear hx
            go_wp2_with fail
            go_meet
            exact ⟨_, rfl, Lib.hid (by rw [HR.out]; simp; try omega), Lib.hid rfl⟩
      · have HR := Lib.hid (push_false (s := s) (k := k) (x := x) (Or.inl (decide_eq_false hk))).1
        clear hi
        by_cases hk0 : k < 0
        · clear hk
          go_wp2_with fail
          go_meet
          exact ⟨_, rfl, Lib.hid (by rw [HR.out]; simp), Lib.hid rfl⟩
        · have hk1 : (s.m : Int) ≤ k := by omega
          clear hk
          go_wp2_with fail
          go_meet
          exact ⟨_, rfl, Lib.hid (by rw [HR.out]; simp; try omega), Lib.hid rfl⟩
  case rest =>
    obtain ⟨b', rfl, HB', HW⟩ := hcut
    obtain rfl := HW.out
    clear HW
    cases b with
    | false =>
      obtain rfl : b' = true := by rw [HB'.out, HB.out]; rfl
      have HE := Lib.hid (show pushS s k x = s by unfold pushS; rw [HB.out]; rfl)
      have d0 := BX2.out.d0
      have d1 := BX2.out.d1
      have z0 := BZ2.out.d0
      have z1 := BZ2.out.d1
      have f0 := BZ2.out.fr 0
      have f1 := BZ2.out.fr 1
      go_wp2_with fail
      clear d0 d1 z0 z1 f0 f1
      have TF := Lib.hid (store2_turn wc rz (.int .i64 s.n) (.slice ca s.m cc))
      have BF := Lib.hid (BZ2.out.store (n' := s.n) (ca' := ca) (m' := s.m) (cc' := cc))
      generalize (wc.setCell ⟨rz, 0, none⟩ (.int .i64 s.n)).setCell ⟨rz, 1, none⟩ (.slice ca s.m cc) = wf at TF BF ⊢
      have d0 := BF.out.d0
      have d1 := BF.out.d1
      have hrz := HBZ.out.2
      have TW : Turn (fun _ => False) w wf := T2.out.and TF.out (fun i hi e => by have e' : i = rz := e; omega)
      refine bodyPost_ret (v := .tuple #[.agg #[.int .i64 s.n, .slice ca s.m cc], .bool false]) (by simp [results, Try.results11, go_sem, d0, d1]) rfl ⟨ca, cc, ?_, ?_, TW⟩
      · rw [HE.out]
      · rw [HE.out]
        exact (H.out.new TW).mono (fun i e => Or.inl e)
    | true =>
      obtain rfl : b' = false := by rw [HB'.out, HB.out]; rfl
      have hpb := HB.out
      unfold pushB isQ isT at hpb
      simp only [Bool.and_eq_true, decide_eq_true_eq, Bool.not_eq_true'] at hpb
      obtain ⟨j, rfl⟩ : ∃ j : Nat, k = j := ⟨k.toNat, by omega⟩
      have hj : j < s.m := by omega
      have HE := Lib.hid (show pushS s j x = s.put j (s.M j ++ [x]) by unfold pushS; rw [if_pos HB.out]; rfl)
      obtain ⟨ad, a, c, hca, hcell, hints, hD, hnil, hlc⟩ := (H.out.new T2.out).row j hj
      subst hca
      have hl := HF.out.len hj
      obtain ⟨n, hn⟩ : ∃ n, (s.M j).length = n := ⟨_, rfl⟩
      rw [hn] at hl hcell hlc
      have HN := Lib.hid hn
      have HI := Lib.hid (⟨hints, hnil, hD⟩ : Ints .i64 wc a (s.M j) ∧ (a = none → c = 0) ∧ (∀ x, a = some x → D x.block))
      have HC := Lib.hid hcell
      clear hpb hn hints hD hnil hcell HB HB'
      go_upto_region 4 with fail
      have KEEP := Lib.hid (show ∀ w', Turn (fun _ => False) wc w' → (w'.cell? ⟨bx, 0, none⟩ = some (.int .i64 s.n) ∧ w'.cell? ⟨bx, 1, none⟩ = some (.slice (some ad) s.m cc) ∧ w'.cell? (ad.add j) = some (.slice a n c)) from fun w' t => ⟨(BX2.out.turn t id).d0, (BX2.out.turn t id).d1, t.cell id HC.out⟩)
      have TD := Lib.hid ((Turn.refl (fun _ => False) wc).drewN 1)
      refine stand_start (by kernel_rfl) 12 (fun w' => w'.cell? ⟨bx, 0, none⟩ = some (.int .i64 s.n) ∧ w'.cell? ⟨bx, 1, none⟩ = some (.slice (some ad) s.m cc) ∧ w'.cell? (ad.add j) = some (.slice a n c)) 12 (fun w' => True) (KEEP.out _ TD.out) trivial ?_
      refine stand_take (i := 1) (v := ?_) rfl (by kernel_rfl) (by kernel_rfl) (by kernel_rfl) (by rfl) (fun _ _ _ h => h) (by decide) (by decide) (by rfl) ?_ ?_
      rotate_left
      · (intro w; go_simp; try with_reducible rfl)
      dsimp only [List.set_cons_zero, List.set_cons_succ]
      refine stand_take (i := 3) (v := ?_) rfl (by kernel_rfl) (by kernel_rfl) (by kernel_rfl) (by rfl) (fun _ _ _ h => h) (by decide) (by decide) (by rfl) ?_ ?_
      rotate_left
      · (intro w; go_simp; try with_reducible rfl)
      dsimp only [List.set_cons_zero, List.set_cons_succ]
      refine stand_take (i := 5) (v := ?_) rfl (by kernel_rfl) (by kernel_rfl) (by kernel_rfl) (by rfl) (fun _ _ _ h => h) (by decide) (by decide) (by rfl) ?_ ?_
      rotate_left
      · (intro w; go_simp; try with_reducible rfl)
      dsimp only [List.set_cons_zero, List.set_cons_succ]
      refine stand_take (i := 9) (v := ?_) rfl (by kernel_rfl) (by kernel_rfl) (by kernel_rfl) (by rfl) (fun _ _ _ h => h) (by decide) (by decide) (by rfl) ?_ ?_
      rotate_left
      · (intro w; go_simp; try with_reducible rfl)
      dsimp only [List.set_cons_zero, List.set_cons_succ]
      refine stand_load1 (i := 0) (v := ?_) rfl (by kernel_rfl) (by kernel_rfl) (by kernel_rfl) (by rfl) (fun _ _ _ h => h) (by decide) (by decide) (by kernel_rfl) (by rfl) ?_ ?_
      rotate_left
      · (intro w hA; (try dsimp only at hA); go_simp; try with_reducible rfl)
      dsimp only [List.set_cons_zero, List.set_cons_succ]
      refine stand_load1 (i := 4) (v := ?_) rfl (by kernel_rfl) (by kernel_rfl) (by kernel_rfl) (by rfl) (fun _ _ _ h => h) (by decide) (by decide) (by kernel_rfl) (by rfl) ?_ ?_
      rotate_left
      · (intro w hA; (try dsimp only at hA); go_simp; try with_reducible rfl)
      dsimp only [List.set_cons_zero, List.set_cons_succ]
      refine stand_take (i := 6) (v := ?_) rfl (by kernel_rfl) (by kernel_rfl) (by kernel_rfl) (by rfl) (fun _ _ _ h => h) (by decide) (by decide) (by rfl) ?_ ?_
      rotate_left
      · (intro w; go_simp; try with_reducible rfl)
      dsimp only [List.set_cons_zero, List.set_cons_succ]
      refine stand_load1 (i := 7) (v := ?_) rfl (by kernel_rfl) (by kernel_rfl) (by kernel_rfl) (by rfl) (fun _ _ _ h => h) (by decide) (by decide) (by kernel_rfl) (by rfl) ?_ ?_
      rotate_left
      · (intro w hA; (try dsimp only at hA); go_simp; try with_reducible rfl)
      dsimp only [List.set_cons_zero, List.set_cons_succ]
      refine stand_two (i := 2) (j := 10) (by kernel_rfl) rfl rfl (fun K hK => ?_) (fun K hK => ?_)
      · go_simp
        have TE := Lib.hid (TD.out.alloc (.cells #[] 3))
        refine hK.out _ _ (fun _ => KEEP.out _ TE.out) (fun _ => trivial) ?_
        clear hK K
        try simp only [put_laid, List.set_cons_zero, List.set_cons_succ]
        refine stand_two (i := 8) (j := 10) (by kernel_rfl) rfl rfl (fun K hK => ?_) (fun K hK => ?_)
        · refine step_append_any Try.underlying29 info_int (by decide) rfl (.tmp 41) (.tmp 46) rfl wc.heap.size (.slice (some ⟨wc.heap.size, 0, none⟩) 0 0) [] 0 rfl (own_empty (heap_alloc_new wc.drew _) (Nat.le_refl _)) a (s.M j) n c HN.out rfl HI.out.2.1 (HI.out.1.turn TE.out (fun _ _ => id)) (by omega) TE.out.size ?_
          intro v8 w4 O8 T8 B8
          rw [Nat.zero_add, List.nil_append] at O8
          have T4 := Lib.hid (TE.out.and T8.out (fun i hi e => far_new hi e))
          refine hK.out _ _ (fun _ => KEEP.out _ T4.out) (fun _ => trivial) ?_
          clear hK K
          try simp only [put_laid, List.set_cons_zero, List.set_cons_succ]
          refine stand_step (i := 10) (by kernel_rfl) rfl (fun K hK => ?_)
          go_simp
          have T5 := Lib.hid (T4.out.alloc (.cells #[.int .i64 x] 3))
          refine hK.out _ _ (fun _ => KEEP.out _ T5.out) (fun _ => trivial) ?_
          clear hK K
          try simp only [put_laid, List.set_cons_zero, List.set_cons_succ]
          have HB1 := Lib.hid (heap_alloc_new w4 (.cells #[.int .i64 x] 3))
          have O8 := Lib.hid (O8.out.alloc (.cells #[.int .i64 x] 3))
          generalize w4.alloc (.cells #[.int .i64 x] 3) = w5 at T5 HB1 O8 ⊢
          generalize w4.heap.size = b1 at HB1 ⊢
          clear T8 B8 T4 TE TD
          refine stand_step (i := 11) (by kernel_rfl) rfl (fun K hK => ?_)
          refine step_append_one Try.underlying29 info_int (by decide) rfl (.tmp 47) (.tmp 49) rfl wc.heap.size v8 (s.M j) n rfl O8.out b1 x rfl HB1.out (by omega) T5.out.size ?_
          intro g c6 w6 hg h6 t6 b6
          have T6 := Lib.hid (T5.out.and t6.out (fun i hi e => by have := (O8.out.lt i e).1; omega))
          refine hK.out _ _ (fun _ => KEEP.out _ T6.out) (fun _ => trivial) ?_
          clear hK K
          try simp only [put_laid, List.set_cons_zero, List.set_cons_succ]
          refine stand_step (i := 12) (by kernel_rfl) rfl (fun K hK => ?_)
          go_simp
          have RS6 := Lib.hid (((H.out.new T2.out).new T6.out).mono (D' := fun i => D i ∨ (wc.heap.size ≤ i ∧ i < w6.heap.size)) (fun i e => Or.inl e))
          have hw : Calls Try.prog 25 #[.agg #[.int .i64 s.n, .slice (some ad) s.m cc], .int .i64 j, .slice (some ⟨g, 0, none⟩) (n + 1) c6] w6 (fun e w' => ∃ cb cc', e = .returned (.agg #[.int .i64 s.n, .slice (some ⟨cb, 0, none⟩) s.m cc']) ∧ RS w' (s.put j (s.M j ++ [x])) (some ⟨cb, 0, none⟩) cc' (Dn (fun i => D i ∨ (wc.heap.size ≤ i ∧ i < w6.heap.size)) w6 w') ∧ Turn (fun _ => False) w6 w') :=
            with_any w6 RS6.out hm hj (own_reads h6.out).2.1 (by rw [List.length_append, HN.out]; rfl) (fun y e => Or.inr (by
              cases e
              have := h6.out.lt g rfl
              exact this)) (fun e => (by cases e)) (own_reads h6.out).2.2.1
          refine hw.mono ?_
          rintro e w7 ⟨cb, cc7, rfl, rs7, t7⟩
          have RS7 := Lib.hid rs7
          have T7 := Lib.hid (T6.out.trans t7)
          have S67 := Lib.hid t7.size
          clear hw rs7 t7
          refine hK.out _ _ (past (by kernel_rfl)) (past (by kernel_rfl)) ?_
          clear hK K
          try simp only [put_laid, List.set_cons_zero, List.set_cons_succ]
          have BZ7 := Lib.hid (BZ2.out.turn T7.out id)
          have z0 := BZ7.out.d0
          have z1 := BZ7.out.d1
          have g0 := BZ7.out.fr 0
          have g1 := BZ7.out.fr 1
          refine stand_step (i := 13) (by kernel_rfl) rfl (fun K hK => ?_)
          go_simp
          clear z0 z1 g0 g1
          refine hK.out _ _ (past (by kernel_rfl)) (past (by kernel_rfl)) ?_
          clear hK K
          try simp only [put_laid, List.set_cons_zero, List.set_cons_succ]
          refine stand_take (i := 14) (v := ?_) rfl (by kernel_rfl) (by kernel_rfl) (by kernel_rfl) (by rfl) (fun _ _ _ h => h) (by decide) (by decide) (by rfl) ?_ ?_
          rotate_left
          · (intro w; go_simp; try with_reducible rfl)
          dsimp only [List.set_cons_zero, List.set_cons_succ]
          refine stand_done (by kernel_rfl) ?_
          go_wp2_with fail
          have TF := Lib.hid (store2_turn w7 rz (.int .i64 s.n) (.slice (some ⟨cb, 0, none⟩) s.m cc7))
          have BF := Lib.hid (BZ7.out.store (n' := s.n) (ca' := some ⟨cb, 0, none⟩) (m' := s.m) (cc' := cc7))
          generalize (w7.setCell ⟨rz, 0, none⟩ (.int .i64 s.n)).setCell ⟨rz, 1, none⟩ (.slice (some ⟨cb, 0, none⟩) s.m cc7) = wf at TF BF ⊢
          have d0 := BF.out.d0
          have d1 := BF.out.d1
          have hrz := HBZ.out.2
          have hlt := BZ2.out.lt
          have TW : Turn (fun _ => False) w wf := (T2.out.trans T7.out).and TF.out (fun i hi e => by have e' : i = rz := e; omega)
          have h1 := T2.out.size
          have h2 := T6.out.size
          have h3 := S67.out
          have h4 := TF.out.size
          have hrs := (RS7.out.turn TF.out (fun i hi e => by
            have e' : i = rz := e
            rcases hi with (h | h) | h
            · have := HDB.out i h; omega
            · omega
            · have := h.1; omega)).mono (D' := Dn D w wf) (fun i hi => by
            rcases hi with (h | h) | h
            · exact Or.inl h
            · exact Or.inr ⟨by omega, by omega⟩
            · have := h.1; have := h.2; exact Or.inr ⟨by omega, by omega⟩)
          refine bodyPost_ret (v := .tuple #[.agg #[.int .i64 s.n, .slice (some ⟨cb, 0, none⟩) s.m cc7], .bool true]) (by simp [results, Try.results11, go_sem, d0, d1]) rfl ⟨some ⟨cb, 0, none⟩, cc7, ?_, ?_, TW⟩
          · rw [HE.out]; rfl
          · rw [HE.out]; exact hrs
        · go_simp
          have T4 := Lib.hid (TE.out.alloc (.cells #[.int .i64 x] 3))
          refine hK.out _ _ (fun _ => KEEP.out _ T4.out) (fun _ => trivial) ?_
          clear hK K
          try simp only [put_laid, List.set_cons_zero, List.set_cons_succ]
          refine stand_step (i := 8) (by kernel_rfl) rfl (fun K hK => ?_)
          refine step_append_any Try.underlying29 info_int (by decide) rfl (.tmp 41) (.tmp 46) rfl wc.heap.size (.slice (some ⟨wc.heap.size, 0, none⟩) 0 0) [] 0 rfl (own_empty (new2 wc.drew _ _) (Nat.le_refl _)) a (s.M j) n c HN.out rfl HI.out.2.1 (HI.out.1.turn T4.out (fun _ _ => id)) (by omega) T4.out.size ?_
          intro v8 w5 O8 T8 B8
          rw [Nat.zero_add, List.nil_append] at O8
          have T5 := Lib.hid (T4.out.and T8.out (fun i hi e => far_new hi e))
          refine hK.out _ _ (fun _ => KEEP.out _ T5.out) (fun _ => trivial) ?_
          clear hK K
          try simp only [put_laid, List.set_cons_zero, List.set_cons_succ]
          have HB1 := Lib.hid (show w5.heap[wc.heap.size + 1]? = some (.cells #[.int .i64 x] 3 (0, 0)) from T8.out.heap (fun e => by have := Option.some.inj e; simp at this) (new2' wc.drew (.cells #[] 3) (.cells #[.int .i64 x] 3)))
          generalize wc.heap.size + 1 = b1 at HB1 ⊢
          clear T8 B8 T4 TE TD
          refine stand_step (i := 11) (by kernel_rfl) rfl (fun K hK => ?_)
          refine step_append_one Try.underlying29 info_int (by decide) rfl (.tmp 47) (.tmp 49) rfl wc.heap.size v8 (s.M j) n rfl O8.out b1 x rfl HB1.out (by omega) T5.out.size ?_
          intro g c6 w6 hg h6 t6 b6
          have T6 := Lib.hid (T5.out.and t6.out (fun i hi e => by have := (O8.out.lt i e).1; omega))
          refine hK.out _ _ (fun _ => KEEP.out _ T6.out) (fun _ => trivial) ?_
          clear hK K
          try simp only [put_laid, List.set_cons_zero, List.set_cons_succ]
          refine stand_step (i := 12) (by kernel_rfl) rfl (fun K hK => ?_)
          go_simp
          have RS6 := Lib.hid (((H.out.new T2.out).new T6.out).mono (D' := fun i => D i ∨ (wc.heap.size ≤ i ∧ i < w6.heap.size)) (fun i e => Or.inl e))
          have hw : Calls Try.prog 25 #[.agg #[.int .i64 s.n, .slice (some ad) s.m cc], .int .i64 j, .slice (some ⟨g, 0, none⟩) (n + 1) c6] w6 (fun e w' => ∃ cb cc', e = .returned (.agg #[.int .i64 s.n, .slice (some ⟨cb, 0, none⟩) s.m cc']) ∧ RS w' (s.put j (s.M j ++ [x])) (some ⟨cb, 0, none⟩) cc' (Dn (fun i => D i ∨ (wc.heap.size ≤ i ∧ i < w6.heap.size)) w6 w') ∧ Turn (fun _ => False) w6 w') :=
            with_any w6 RS6.out hm hj (own_reads h6.out).2.1 (by rw [List.length_append, HN.out]; rfl) (fun y e => Or.inr (by
              cases e
              have := h6.out.lt g rfl
              exact this)) (fun e => (by cases e)) (own_reads h6.out).2.2.1
          refine hw.mono ?_
          rintro e w7 ⟨cb, cc7, rfl, rs7, t7⟩
          have RS7 := Lib.hid rs7
          have T7 := Lib.hid (T6.out.trans t7)
          have S67 := Lib.hid t7.size
          clear hw rs7 t7
          refine hK.out _ _ (past (by kernel_rfl)) (past (by kernel_rfl)) ?_
          clear hK K
          try simp only [put_laid, List.set_cons_zero, List.set_cons_succ]
          have BZ7 := Lib.hid (BZ2.out.turn T7.out id)
          have z0 := BZ7.out.d0
          have z1 := BZ7.out.d1
          have g0 := BZ7.out.fr 0
          have g1 := BZ7.out.fr 1
          refine stand_step (i := 13) (by kernel_rfl) rfl (fun K hK => ?_)
          go_simp
          clear z0 z1 g0 g1
          refine hK.out _ _ (past (by kernel_rfl)) (past (by kernel_rfl)) ?_
          clear hK K
          try simp only [put_laid, List.set_cons_zero, List.set_cons_succ]
          refine stand_take (i := 14) (v := ?_) rfl (by kernel_rfl) (by kernel_rfl) (by kernel_rfl) (by rfl) (fun _ _ _ h => h) (by decide) (by decide) (by rfl) ?_ ?_
          rotate_left
          · (intro w; go_simp; try with_reducible rfl)
          dsimp only [List.set_cons_zero, List.set_cons_succ]
          refine stand_done (by kernel_rfl) ?_
          go_wp2_with fail
          have TF := Lib.hid (store2_turn w7 rz (.int .i64 s.n) (.slice (some ⟨cb, 0, none⟩) s.m cc7))
          have BF := Lib.hid (BZ7.out.store (n' := s.n) (ca' := some ⟨cb, 0, none⟩) (m' := s.m) (cc' := cc7))
          generalize (w7.setCell ⟨rz, 0, none⟩ (.int .i64 s.n)).setCell ⟨rz, 1, none⟩ (.slice (some ⟨cb, 0, none⟩) s.m cc7) = wf at TF BF ⊢
          have d0 := BF.out.d0
          have d1 := BF.out.d1
          have hrz := HBZ.out.2
          have hlt := BZ2.out.lt
          have TW : Turn (fun _ => False) w wf := (T2.out.trans T7.out).and TF.out (fun i hi e => by have e' : i = rz := e; omega)
          have h1 := T2.out.size
          have h2 := T6.out.size
          have h3 := S67.out
          have h4 := TF.out.size
          have hrs := (RS7.out.turn TF.out (fun i hi e => by
            have e' : i = rz := e
            rcases hi with (h | h) | h
            · have := HDB.out i h; omega
            · omega
            · have := h.1; omega)).mono (D' := Dn D w wf) (fun i hi => by
            rcases hi with (h | h) | h
            · exact Or.inl h
            · exact Or.inr ⟨by omega, by omega⟩
            · have := h.1; have := h.2; exact Or.inr ⟨by omega, by omega⟩)
          refine bodyPost_ret (v := .tuple #[.agg #[.int .i64 s.n, .slice (some ⟨cb, 0, none⟩) s.m cc7], .bool true]) (by simp [results, Try.results11, go_sem, d0, d1]) rfl ⟨some ⟨cb, 0, none⟩, cc7, ?_, ?_, TW⟩
          · rw [HE.out]; rfl
          · rw [HE.out]; exact hrs
      · go_simp
        have TE := Lib.hid (TD.out.alloc (.cells #[.int .i64 x] 3))
        refine hK.out _ _ (fun _ => KEEP.out _ TE.out) (fun _ => trivial) ?_
        clear hK K
        try simp only [put_laid, List.set_cons_zero, List.set_cons_succ]
        refine stand_step (i := 2) (by kernel_rfl) rfl (fun K hK => ?_)
        go_simp
        have T4 := Lib.hid (TE.out.alloc (.cells #[] 3))
        refine hK.out _ _ (fun _ => KEEP.out _ T4.out) (fun _ => trivial) ?_
        clear hK K
        try simp only [put_laid, List.set_cons_zero, List.set_cons_succ]
        refine stand_step (i := 8) (by kernel_rfl) rfl (fun K hK => ?_)
        refine step_append_any Try.underlying29 info_int (by decide) rfl (.tmp 41) (.tmp 46) rfl wc.heap.size (.slice (some ⟨wc.heap.size + 1, 0, none⟩) 0 0) [] 0 rfl (own_empty (new2' wc.drew _ _) (Nat.le_succ _)) a (s.M j) n c HN.out rfl HI.out.2.1 (HI.out.1.turn T4.out (fun _ _ => id)) (by omega) T4.out.size ?_
        intro v8 w5 O8 T8 B8
        rw [Nat.zero_add, List.nil_append] at O8
        have T5 := Lib.hid (T4.out.and T8.out (fun i hi e => far_new (Nat.lt_succ_of_lt hi) e))
        refine hK.out _ _ (fun _ => KEEP.out _ T5.out) (fun _ => trivial) ?_
        clear hK K
        try simp only [put_laid, List.set_cons_zero, List.set_cons_succ]
        have HB1 := Lib.hid (show w5.heap[wc.heap.size]? = some (.cells #[.int .i64 x] 3 (0, 0)) from T8.out.heap (fun e => by have := Option.some.inj e; simp at this) (new2 wc.drew (.cells #[.int .i64 x] 3) (.cells #[] 3)))
        have HS := Lib.hid (show ∃ b1, b1 = wc.heap.size from ⟨_, rfl⟩)
        obtain ⟨b1, hb1⟩ := HS.out
        rw [← hb1] at HB1 ⊢
        have HB2 := Lib.hid hb1
        clear T8 B8 T4 TE TD hb1 HS
        refine stand_step (i := 11) (by kernel_rfl) rfl (fun K hK => ?_)
        refine step_append_one Try.underlying29 info_int (by decide) rfl (.tmp 47) (.tmp 49) rfl wc.heap.size v8 (s.M j) n rfl O8.out b1 x rfl HB1.out (by omega) T5.out.size ?_
        intro g c6 w6 hg h6 t6 b6
        have T6 := Lib.hid (T5.out.and t6.out (fun i hi e => by have := (O8.out.lt i e).1; omega))
        refine hK.out _ _ (fun _ => KEEP.out _ T6.out) (fun _ => trivial) ?_
        clear hK K
        try simp only [put_laid, List.set_cons_zero, List.set_cons_succ]
        refine stand_step (i := 12) (by kernel_rfl) rfl (fun K hK => ?_)
        go_simp
        have RS6 := Lib.hid (((H.out.new T2.out).new T6.out).mono (D' := fun i => D i ∨ (wc.heap.size ≤ i ∧ i < w6.heap.size)) (fun i e => Or.inl e))
        have hw : Calls Try.prog 25 #[.agg #[.int .i64 s.n, .slice (some ad) s.m cc], .int .i64 j, .slice (some ⟨g, 0, none⟩) (n + 1) c6] w6 (fun e w' => ∃ cb cc', e = .returned (.agg #[.int .i64 s.n, .slice (some ⟨cb, 0, none⟩) s.m cc']) ∧ RS w' (s.put j (s.M j ++ [x])) (some ⟨cb, 0, none⟩) cc' (Dn (fun i => D i ∨ (wc.heap.size ≤ i ∧ i < w6.heap.size)) w6 w') ∧ Turn (fun _ => False) w6 w') :=
          with_any w6 RS6.out hm hj (own_reads h6.out).2.1 (by rw [List.length_append, HN.out]; rfl) (fun y e => Or.inr (by
            cases e
            have := h6.out.lt g rfl
            exact this)) (fun e => (by cases e)) (own_reads h6.out).2.2.1
        refine hw.mono ?_
        rintro e w7 ⟨cb, cc7, rfl, rs7, t7⟩
        have RS7 := Lib.hid rs7
        have T7 := Lib.hid (T6.out.trans t7)
        have S67 := Lib.hid t7.size
        clear hw rs7 t7
        refine hK.out _ _ (past (by kernel_rfl)) (past (by kernel_rfl)) ?_
        clear hK K
        try simp only [put_laid, List.set_cons_zero, List.set_cons_succ]
        have BZ7 := Lib.hid (BZ2.out.turn T7.out id)
        have z0 := BZ7.out.d0
        have z1 := BZ7.out.d1
        have g0 := BZ7.out.fr 0
        have g1 := BZ7.out.fr 1
        refine stand_step (i := 13) (by kernel_rfl) rfl (fun K hK => ?_)
        go_simp
        clear z0 z1 g0 g1
        refine hK.out _ _ (past (by kernel_rfl)) (past (by kernel_rfl)) ?_
        clear hK K
        try simp only [put_laid, List.set_cons_zero, List.set_cons_succ]
        refine stand_take (i := 14) (v := ?_) rfl (by kernel_rfl) (by kernel_rfl) (by kernel_rfl) (by rfl) (fun _ _ _ h => h) (by decide) (by decide) (by rfl) ?_ ?_
        rotate_left
        · (intro w; go_simp; try with_reducible rfl)
        dsimp only [List.set_cons_zero, List.set_cons_succ]
        refine stand_done (by kernel_rfl) ?_
        go_wp2_with fail
        have TF := Lib.hid (store2_turn w7 rz (.int .i64 s.n) (.slice (some ⟨cb, 0, none⟩) s.m cc7))
        have BF := Lib.hid (BZ7.out.store (n' := s.n) (ca' := some ⟨cb, 0, none⟩) (m' := s.m) (cc' := cc7))
        generalize (w7.setCell ⟨rz, 0, none⟩ (.int .i64 s.n)).setCell ⟨rz, 1, none⟩ (.slice (some ⟨cb, 0, none⟩) s.m cc7) = wf at TF BF ⊢
        have d0 := BF.out.d0
        have d1 := BF.out.d1
        have hrz := HBZ.out.2
        have hlt := BZ2.out.lt
        have TW : Turn (fun _ => False) w wf := (T2.out.trans T7.out).and TF.out (fun i hi e => by have e' : i = rz := e; omega)
        have h1 := T2.out.size
        have h2 := T6.out.size
        have h3 := S67.out
        have h4 := TF.out.size
        have hrs := (RS7.out.turn TF.out (fun i hi e => by
          have e' : i = rz := e
          rcases hi with (h | h) | h
          · have := HDB.out i h; omega
          · omega
          · have := h.1; omega)).mono (D' := Dn D w wf) (fun i hi => by
          rcases hi with (h | h) | h
          · exact Or.inl h
          · exact Or.inr ⟨by omega, by omega⟩
          · have := h.1; have := h.2; exact Or.inr ⟨by omega, by omega⟩)
        refine bodyPost_ret (v := .tuple #[.agg #[.int .i64 s.n, .slice (some ⟨cb, 0, none⟩) s.m cc7], .bool true]) (by simp [results, Try.results11, go_sem, d0, d1]) rfl ⟨some ⟨cb, 0, none⟩, cc7, ?_, ?_, TW⟩
        · rw [HE.out]; rfl
        · rw [HE.out]; exact hrs

end Go.Proofs.Ytgkkmbkialcfiaa
