/- The document's Drop, Pop. -/
import Derived.Test.YtgkkmbkialcfiaaRefB
namespace Go.Proofs.Ytgkkmbkialcfiaa
open Go.RowKit
set_option linter.unusedVariables false

set_option maxHeartbeats 2000000 in
theorem rdrop_any {s : St} {ca : Option Addr} {cc : Nat} {D : Nat → Prop} {x : Int} {b : Bool} (w : World) (h : RS w s ca cc D) (hF : Fine s) (hDb : ∀ i, D i → i < w.heap.size) (hb : inB s x = b) :
    Calls Try.prog 15 #[.agg #[.int .i64 s.n, .slice ca s.m cc], .int .i64 x] w (RPost (dropS s x) b D w) := by
  have H := Lib.hid h
  have HF := Lib.hid hF
  have HDB := Lib.hid hDb
  have hm := hF.m
  have hcases := in_cases s x
  rw [hb] at hcases
  have HB := Lib.hid hb
  have TA := Lib.hid ((((Turn.refl (fun _ => False) w).alloc (.cells #[.int .i64 s.n, .slice ca s.m cc] 34)).alloc (.cells #[.int .i64 0, .slice none 0 0] 34)))
  have BX := Lib.hid (show RBox ((w.alloc (.cells #[.int .i64 s.n, .slice ca s.m cc] 34)).alloc (.cells #[.int .i64 0, .slice none 0 0] 34)) w.heap.size s.n ca s.m cc from new2 w _ _)
  have BZ := Lib.hid (show RBox ((w.alloc (.cells #[.int .i64 s.n, .slice ca s.m cc] 34)).alloc (.cells #[.int .i64 0, .slice none 0 0] 34)) (w.heap.size + 1) 0 none 0 0 from new2' w _ _)
  clear h hF hDb hb
  rcases hcases with ⟨rfl, e2, e3, _⟩ | ⟨k, hk, hx, _, rfl, e2, e3⟩
  · have HE := Lib.hid e3
    have HV := Lib.hid e2
    clear e2 e3
    go_enter Try.func15, Try.ntmps15
    go_upto_region 1 with fail
    generalize (w.alloc (.cells #[.int .i64 s.n, .slice ca s.m cc] 34)).alloc (.cells #[.int .i64 0, .slice none 0 0] 34) = w1 at TA BX BZ ⊢
    obtain ⟨bx, hbx⟩ : ∃ bx, bx = w.heap.size := ⟨_, rfl⟩
    obtain ⟨rz, hrz⟩ : ∃ rz, rz = w.heap.size + 1 := ⟨_, rfl⟩
    rw [← hrz] at BZ ⊢
    rw [← hbx] at BX ⊢
    have HBZ := Lib.hid (And.intro hbx hrz)
    clear hbx hrz
    have d0 := BX.out.d0
    have d1 := BX.out.d1
    go_wp2_with fail
    refine (rin_any w1 (H.out.new TA.out) HF.out HV.out HB.out).mono ?_
    rintro e w2 ⟨rfl, t2⟩
    have T2 := Lib.hid (TA.out.trans t2)
    have BX2 := Lib.hid (BX.out.turn t2 id)
    have BZ2 := Lib.hid (BZ.out.turn t2 id)
    clear t2 d0 d1 TA BX BZ
    have d0 := BX2.out.d0
    have d1 := BX2.out.d1
    have z0 := BZ2.out.d0
    have z1 := BZ2.out.d1
    have f0 := BZ2.out.fr 0
    have f1 := BZ2.out.fr 1
    go_wp2_with fail
    clear d0 d1 z0 z1 f0 f1
    have TF := Lib.hid (store2_turn w2 rz (.int .i64 s.n) (.slice ca s.m cc))
    have BF := Lib.hid (BZ2.out.store (n' := s.n) (ca' := ca) (m' := s.m) (cc' := cc))
    generalize (w2.setCell ⟨rz, 0, none⟩ (.int .i64 s.n)).setCell ⟨rz, 1, none⟩ (.slice ca s.m cc) = wf at TF BF ⊢
    have d0 := BF.out.d0
    have d1 := BF.out.d1
    have hrz := HBZ.out.2
    have TW : Turn (fun _ => False) w wf := T2.out.and TF.out (fun i hi e => by have e' : i = rz := e; omega)
    refine bodyPost_ret (v := .tuple #[.agg #[.int .i64 s.n, .slice ca s.m cc], .bool false]) (by simp [results, Try.results15, go_sem, d0, d1]) rfl ⟨ca, cc, ?_, ?_, TW⟩
    · rw [HE.out]
    · rw [HE.out]
      exact (H.out.new TW).mono (fun i e => Or.inl e)
  · have HE := Lib.hid e3
    have HV := Lib.hid e2
    clear e2 e3
    go_enter Try.func15, Try.ntmps15
    go_upto_region 1 with fail
    generalize (w.alloc (.cells #[.int .i64 s.n, .slice ca s.m cc] 34)).alloc (.cells #[.int .i64 0, .slice none 0 0] 34) = w1 at TA BX BZ ⊢
    obtain ⟨bx, hbx⟩ : ∃ bx, bx = w.heap.size := ⟨_, rfl⟩
    obtain ⟨rz, hrz⟩ : ∃ rz, rz = w.heap.size + 1 := ⟨_, rfl⟩
    rw [← hrz] at BZ ⊢
    rw [← hbx] at BX ⊢
    have HBZ := Lib.hid (And.intro hbx hrz)
    clear hbx hrz
    have d0 := BX.out.d0
    have d1 := BX.out.d1
    go_wp2_with fail
    refine (rin_any w1 (H.out.new TA.out) HF.out HV.out HB.out).mono ?_
    rintro e wc ⟨rfl, t2⟩
    have T2 := Lib.hid (TA.out.trans t2)
    have BX2 := Lib.hid (BX.out.turn t2 id)
    have BZ2 := Lib.hid (BZ.out.turn t2 id)
    clear t2 d0 d1 TA BX BZ
    obtain ⟨ad, a, c, hca, hcell, hints, hD, hnil, hlc⟩ := (H.out.new T2.out).row k hk
    subst hca
    have hl := HF.out.len hk
    obtain ⟨n, hn⟩ : ∃ n, (s.M k).length = n := ⟨_, rfl⟩
    rw [hn] at hl hcell hlc
    have HN := Lib.hid hn
    have HI := Lib.hid hints
    have HC := Lib.hid hcell
    clear hn hints hD hnil hcell HB hx hlc
    go_upto_region 4 with fail
    have KEEP := Lib.hid (show ∀ w', Turn (fun _ => False) wc w' → (w'.cell? ⟨bx, 0, none⟩ = some (.int .i64 s.n) ∧ w'.cell? ⟨bx, 1, none⟩ = some (.slice (some ad) s.m cc) ∧ w'.cell? (ad.add k) = some (.slice a n c)) from fun w' t => ⟨(BX2.out.turn t id).d0, (BX2.out.turn t id).d1, t.cell id HC.out⟩)
    have TD := Lib.hid ((Turn.refl (fun _ => False) wc).drewN 1)
    refine stand_start (by kernel_rfl) 9 (fun w' => w'.cell? ⟨bx, 0, none⟩ = some (.int .i64 s.n) ∧ w'.cell? ⟨bx, 1, none⟩ = some (.slice (some ad) s.m cc) ∧ w'.cell? (ad.add k) = some (.slice a n c)) 9 (fun w' => True) (KEEP.out _ TD.out) trivial ?_
    refine stand_take (i := 1) (v := ?_) rfl (by kernel_rfl) (by kernel_rfl) (by kernel_rfl) (by rfl) (fun _ _ _ h => h) (by decide) (by decide) (by rfl) ?_ ?_
    rotate_left
    · (intro w; go_simp; try with_reducible rfl)
    dsimp only [List.set_cons_zero, List.set_cons_succ]
    refine stand_take (i := 2) (v := ?_) rfl (by kernel_rfl) (by kernel_rfl) (by kernel_rfl) (by rfl) (fun _ _ _ h => h) (by decide) (by decide) (by rfl) ?_ ?_
    rotate_left
    · (intro w; go_simp; try with_reducible rfl)
    dsimp only [List.set_cons_zero, List.set_cons_succ]
    refine stand_take (i := 4) (v := ?_) rfl (by kernel_rfl) (by kernel_rfl) (by kernel_rfl) (by rfl) (fun _ _ _ h => h) (by decide) (by decide) (by rfl) ?_ ?_
    rotate_left
    · (intro w; go_simp; try with_reducible rfl)
    dsimp only [List.set_cons_zero, List.set_cons_succ]
    refine stand_take (i := 7) (v := ?_) rfl (by kernel_rfl) (by kernel_rfl) (by kernel_rfl) (by rfl) (fun _ _ _ h => h) (by decide) (by decide) (by rfl) ?_ ?_
    rotate_left
    · (intro w; go_simp; try with_reducible rfl)
    dsimp only [List.set_cons_zero, List.set_cons_succ]
    refine stand_load1 (i := 0) (v := ?_) rfl (by kernel_rfl) (by kernel_rfl) (by kernel_rfl) (by rfl) (fun _ _ _ h => h) (by decide) (by decide) (by kernel_rfl) (by rfl) ?_ ?_
    rotate_left
    · (intro w hA; (try dsimp only at hA); go_simp; try with_reducible rfl)
    dsimp only [List.set_cons_zero, List.set_cons_succ]
    refine stand_load1 (i := 3) (v := ?_) rfl (by kernel_rfl) (by kernel_rfl) (by kernel_rfl) (by rfl) (fun _ _ _ h => h) (by decide) (by decide) (by kernel_rfl) (by rfl) ?_ ?_
    rotate_left
    · (intro w hA; (try dsimp only at hA); go_simp; try with_reducible rfl)
    dsimp only [List.set_cons_zero, List.set_cons_succ]
    refine stand_take (i := 5) (v := ?_) rfl (by kernel_rfl) (by kernel_rfl) (by kernel_rfl) (by rfl) (fun _ _ _ h => h) (by decide) (by decide) (by rfl) ?_ ?_
    rotate_left
    · (intro w; go_simp; try with_reducible rfl)
    dsimp only [List.set_cons_zero, List.set_cons_succ]
    refine stand_load1 (i := 6) (v := ?_) rfl (by kernel_rfl) (by kernel_rfl) (by kernel_rfl) (by rfl) (fun _ _ _ h => h) (by decide) (by decide) (by kernel_rfl) (by rfl) ?_ ?_
    rotate_left
    · (intro w hA; (try dsimp only at hA); go_simp; try with_reducible rfl)
    dsimp only [List.set_cons_zero, List.set_cons_succ]
    refine stand_step (i := 8) (by kernel_rfl) rfl (fun K hK => ?_)
    go_simp
    refine (without_any _ (HI.out.turn TD.out (fun _ _ => id)) HN.out (by omega)).mono ?_
    rintro e w6 ⟨bo, bc, rfl, l6, i6, b6, c6, n6, t6⟩
    have T6 := Lib.hid (TD.out.trans t6)
    have I6 := Lib.hid (And.intro l6 (And.intro i6 (And.intro b6 (And.intro c6 n6))))
    obtain ⟨L, hL⟩ : ∃ L, L = without (s.M k) x := ⟨_, rfl⟩
    rw [← hL] at I6 ⊢
    have HL := Lib.hid hL
    clear l6 i6 b6 c6 n6 t6 hL
    refine hK.out _ _ (fun _ => KEEP.out _ T6.out) (fun _ => trivial) ?_
    clear hK K
    try simp only [put_laid, List.set_cons_zero, List.set_cons_succ]
    refine stand_step (i := 9) (by kernel_rfl) rfl (fun K hK => ?_)
    go_simp
    have RS6 := Lib.hid (((H.out.new T2.out).new T6.out).mono (D' := fun i => D i ∨ (wc.heap.size ≤ i ∧ i < w6.heap.size)) (fun i e => Or.inl e))
    have hw : Calls Try.prog 25 #[.agg #[.int .i64 s.n, .slice (some ad) s.m cc], .int .i64 k, .slice bo L.length bc] w6 (fun e w' => ∃ cb cc', e = .returned (.agg #[.int .i64 s.n, .slice (some ⟨cb, 0, none⟩) s.m cc']) ∧ RS w' (s.put k L) (some ⟨cb, 0, none⟩) cc' (Dn (fun i => D i ∨ (wc.heap.size ≤ i ∧ i < w6.heap.size)) w6 w') ∧ Turn (fun _ => False) w6 w') :=
      with_any w6 RS6.out hm hk I6.out.2.1 rfl (fun y e => Or.inr (I6.out.2.2.1 y e)) I6.out.2.2.2.2 I6.out.2.2.2.1
    refine hw.mono ?_
    rintro e w7 ⟨cb, cc7, rfl, rs7, t7⟩
    have RS7 := Lib.hid rs7
    have T7 := Lib.hid (T6.out.trans t7)
    have S67 := Lib.hid t7.size
    clear hw rs7 t7
    refine hK.out _ _ (past (by kernel_rfl)) (past (by kernel_rfl)) ?_
    clear hK K
    try simp only [put_laid, List.set_cons_zero, List.set_cons_succ]
    have BZ7 := Lib.hid (BZ2.out.turn T7.out id)
    have z0 := BZ7.out.d0
    have z1 := BZ7.out.d1
    have g0 := BZ7.out.fr 0
    have g1 := BZ7.out.fr 1
    refine stand_step (i := 10) (by kernel_rfl) rfl (fun K hK => ?_)
    go_simp
    clear z0 z1 g0 g1
    refine hK.out _ _ (past (by kernel_rfl)) (past (by kernel_rfl)) ?_
    clear hK K
    try simp only [put_laid, List.set_cons_zero, List.set_cons_succ]
    refine stand_take (i := 11) (v := ?_) rfl (by kernel_rfl) (by kernel_rfl) (by kernel_rfl) (by rfl) (fun _ _ _ h => h) (by decide) (by decide) (by rfl) ?_ ?_
    rotate_left
    · (intro w; go_simp; try with_reducible rfl)
    dsimp only [List.set_cons_zero, List.set_cons_succ]
    refine stand_done (by kernel_rfl) ?_
    go_wp2_with fail
    have TF := Lib.hid (store2_turn w7 rz (.int .i64 s.n) (.slice (some ⟨cb, 0, none⟩) s.m cc7))
    have BF := Lib.hid (BZ7.out.store (n' := s.n) (ca' := some ⟨cb, 0, none⟩) (m' := s.m) (cc' := cc7))
    generalize (w7.setCell ⟨rz, 0, none⟩ (.int .i64 s.n)).setCell ⟨rz, 1, none⟩ (.slice (some ⟨cb, 0, none⟩) s.m cc7) = wf at TF BF ⊢
    have d0 := BF.out.d0
    have d1 := BF.out.d1
    have hrz := HBZ.out.2
    have hlt := BZ2.out.lt
    have TW : Turn (fun _ => False) w wf := (T2.out.trans T7.out).and TF.out (fun i hi e => by have e' : i = rz := e; omega)
    have h1 := T2.out.size
    have h2 := T6.out.size
    have h3 := S67.out
    have h4 := TF.out.size
    have hrs := (RS7.out.turn TF.out (fun i hi e => by
      have e' : i = rz := e
      rcases hi with (h | h) | h
      · have := HDB.out i h; omega
      · omega
      · have := h.1; omega)).mono (D' := Dn D w wf) (fun i hi => by
      rcases hi with (h | h) | h
      · exact Or.inl h
      · exact Or.inr ⟨by omega, by omega⟩
      · have := h.1; have := h.2; exact Or.inr ⟨by omega, by omega⟩)
    refine bodyPost_ret (v := .tuple #[.agg #[.int .i64 s.n, .slice (some ⟨cb, 0, none⟩) s.m cc7], .bool true]) (by simp [results, Try.results15, go_sem, d0, d1]) rfl ⟨some ⟨cb, 0, none⟩, cc7, ?_, ?_, TW⟩
    · rw [HE.out]; rfl
    · rw [HE.out, ← HL.out]; exact hrs

def RPost3 (s' : St) (v : Int) (b : Bool) (D : Nat → Prop) (w : World) (e : Ending) (w' : World) : Prop :=
  ∃ ca' cc', e = .returned (.tuple #[.agg #[.int .i64 s'.n, .slice ca' s'.m cc'], .int .i64 v, .bool b]) ∧ RS w' s' ca' cc' (Dn D w w') ∧ Turn (fun _ => False) w w'
set_option maxHeartbeats 2000000 in
theorem rpop_any {s : St} {ca : Option Addr} {cc : Nat} {D : Nat → Prop} {k v : Int} {b : Bool} (w : World) (h : RS w s ca cc D) (hF : Fine s) (hDb : ∀ i, D i → i < w.heap.size) (hv : firstV s k = v) (hb : firstB s k = b) :
    Calls Try.prog 13 #[.agg #[.int .i64 s.n, .slice ca s.m cc], .int .i64 k] w (RPost3 (popS s k) v b D w) := by
  have H := Lib.hid h
  have HF := Lib.hid hF
  have HDB := Lib.hid hDb
  have HV := Lib.hid hv
  have HB := Lib.hid hb
  have TA := Lib.hid ((((Turn.refl (fun _ => False) w).alloc (.cells #[.int .i64 s.n, .slice ca s.m cc] 34)).alloc (.cells #[.int .i64 0, .slice none 0 0] 34)))
  have BX := Lib.hid (show RBox ((w.alloc (.cells #[.int .i64 s.n, .slice ca s.m cc] 34)).alloc (.cells #[.int .i64 0, .slice none 0 0] 34)) w.heap.size s.n ca s.m cc from new2 w _ _)
  have BZ := Lib.hid (show RBox ((w.alloc (.cells #[.int .i64 s.n, .slice ca s.m cc] 34)).alloc (.cells #[.int .i64 0, .slice none 0 0] 34)) (w.heap.size + 1) 0 none 0 0 from new2' w _ _)
  clear h hF hDb hv hb
  go_enter Try.func13, Try.ntmps13
  go_upto_region 1 with fail
  generalize (w.alloc (.cells #[.int .i64 s.n, .slice ca s.m cc] 34)).alloc (.cells #[.int .i64 0, .slice none 0 0] 34) = w1 at TA BX BZ ⊢
  obtain ⟨bx, hbx⟩ : ∃ bx, bx = w.heap.size := ⟨_, rfl⟩
  obtain ⟨rz, hrz⟩ : ∃ rz, rz = w.heap.size + 1 := ⟨_, rfl⟩
  rw [← hrz] at BZ ⊢
  rw [← hbx] at BX ⊢
  have HBZ := Lib.hid (And.intro hbx hrz)
  clear hbx hrz
  have d0 := BX.out.d0
  have d1 := BX.out.d1
  go_wp2_with fail
  refine (rfirst_any w1 (H.out.new TA.out) HF.out HV.out HB.out).mono ?_
  rintro e w2 ⟨rfl, t2⟩
  have T2 := Lib.hid (TA.out.trans t2)
  have BX2 := Lib.hid (BX.out.turn t2 id)
  have BZ2 := Lib.hid (BZ.out.turn t2 id)
  clear t2 d0 d1 TA BX BZ
  have d0 := BX2.out.d0
  have d1 := BX2.out.d1
  cases b with
  | false =>
    have HE := Lib.hid (show popS s k = s by unfold popS; rw [HB.out]; rfl)
    have z0 := BZ2.out.d0
    have z1 := BZ2.out.d1
    have f0 := BZ2.out.fr 0
    have f1 := BZ2.out.fr 1
    obtain rfl : v = 0 := by rw [← HV.out]; unfold firstV; rw [HB.out]; rfl
    go_wp2_with fail
    clear d0 d1 z0 z1 f0 f1
    have TF := Lib.hid (store2_turn w2 rz (.int .i64 s.n) (.slice ca s.m cc))
    have BF := Lib.hid (BZ2.out.store (n' := s.n) (ca' := ca) (m' := s.m) (cc' := cc))
    generalize (w2.setCell ⟨rz, 0, none⟩ (.int .i64 s.n)).setCell ⟨rz, 1, none⟩ (.slice ca s.m cc) = wf at TF BF ⊢
    have d0 := BF.out.d0
    have d1 := BF.out.d1
    have hrz := HBZ.out.2
    have TW : Turn (fun _ => False) w wf := T2.out.and TF.out (fun i hi e => by have e' : i = rz := e; omega)
    refine bodyPost_ret (v := .tuple #[.agg #[.int .i64 s.n, .slice ca s.m cc], .int .i64 0, .bool false]) (by simp [results, Try.results13, go_sem, d0, d1]) rfl ⟨ca, cc, ?_, ?_, TW⟩
    · rw [HE.out]
    · rw [HE.out]
      exact (H.out.new TW).mono (fun i e => Or.inl e)
  | true =>
    have HE := Lib.hid (show popS s k = dropS s v by unfold popS; rw [if_pos HB.out, HV.out])
    obtain ⟨s', hs'⟩ : ∃ s', dropS s v = s' := ⟨_, rfl⟩
    have HD := Lib.hid (rdrop_any (x := v) w2 (H.out.new T2.out) HF.out (fun i hi => Nat.lt_of_lt_of_le (HDB.out i hi) T2.out.size) rfl)
    rw [hs'] at HD
    have HS := Lib.hid hs'
    clear hs'
    go_wp2_with fail
    refine HD.out.mono ?_
    rintro e w3 ⟨ca', cc', rfl, rs3, t3⟩
    have RS3 := Lib.hid rs3
    have T3 := Lib.hid (T2.out.trans t3)
    have T23 := Lib.hid t3
    have BZ3 := Lib.hid (BZ2.out.turn t3 id)
    clear rs3 t3 d0 d1 BX2 HD
    go_upto_region 5 with fail
    have TN := Lib.hid ((Turn.refl (fun _ => False) w3).alloc (.cells #[.int .i64 s'.n, .slice ca' s'.m cc'] 34))
    have BN := Lib.hid (show RBox (w3.alloc (.cells #[.int .i64 s'.n, .slice ca' s'.m cc'] 34)) w3.heap.size s'.n ca' s'.m cc' from heap_alloc_new w3 _)
    generalize w3.alloc (.cells #[.int .i64 s'.n, .slice ca' s'.m cc'] 34) = w4 at TN BN ⊢
    generalize w3.heap.size = bn at BN ⊢
    have BZ4 := Lib.hid (BZ3.out.turn TN.out id)
    have d0 := BN.out.d0
    have d1 := BN.out.d1
    have z0 := BZ4.out.d0
    have z1 := BZ4.out.d1
    have f0 := BZ4.out.fr 0
    have f1 := BZ4.out.fr 1
    go_wp2_with fail
    clear d0 d1 z0 z1 f0 f1
    have TF := Lib.hid (store2_turn w4 rz (.int .i64 s'.n) (.slice ca' s'.m cc'))
    have BF := Lib.hid (BZ4.out.store (n' := s'.n) (ca' := ca') (m' := s'.m) (cc' := cc'))
    generalize (w4.setCell ⟨rz, 0, none⟩ (.int .i64 s'.n)).setCell ⟨rz, 1, none⟩ (.slice ca' s'.m cc') = wf at TF BF ⊢
    have d0 := BF.out.d0
    have d1 := BF.out.d1
    have hrz := HBZ.out.2
    have hlt := BZ2.out.lt
    have TW : Turn (fun _ => False) w wf := (T3.out.trans TN.out).and TF.out (fun i hi e => by have e' : i = rz := e; omega)
    have h1 := T2.out.size
    have h2 := T23.out.size
    have h3 := TN.out.size
    have h4 := TF.out.size
    have hrs := ((RS3.out.new TN.out).turn TF.out (fun i hi e => by
      have e' : i = rz := e
      rcases hi with h | h
      · have := HDB.out i h; omega
      · have := h.1; omega)).mono (D' := Dn D w wf) (fun i hi => by
      rcases hi with h | h
      · exact Or.inl h
      · have := h.1; have := h.2; exact Or.inr ⟨by omega, by omega⟩)
    refine bodyPost_ret (v := .tuple #[.agg #[.int .i64 s'.n, .slice ca' s'.m cc'], .int .i64 v, .bool true]) (by simp [results, Try.results13, go_sem, d0, d1]) rfl ⟨ca', cc', ?_, ?_, TW⟩
    · rw [HE.out, HS.out]
    · rw [HE.out, HS.out]; exact hrs

end Go.Proofs.Ytgkkmbkialcfiaa
