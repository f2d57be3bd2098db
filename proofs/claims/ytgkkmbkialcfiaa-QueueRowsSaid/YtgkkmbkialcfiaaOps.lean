/- Push, Drop, Pop. -/
import Derived.Test.YtgkkmbkialcfiaaMem
import Derived.Test.YtgkkmbkialcfiaaGRest
import Derived.Deep.DeepCutAuto
import Derived.Deep.CutBlock
namespace Go.Proofs.Ytgkkmbkialcfiaa
open Go.RowKit
set_option linter.unusedVariables false

theorem Good.row_thing {s : St} {c : Cl} (h : Good s c) {k : Nat} (hk : k < s.m) {a : Int} (ha : a ∈ (-1 : Int) :: s.M k) : a = -1 ∨ ∃ x : Nat, a = x ∧ x < s.n := by
  rcases List.mem_cons.1 ha with e | e
  · exact Or.inl e
  · have := h.mem k hk a e
    exact Or.inr ⟨a.toNat, by omega, by omega⟩
theorem Good.row_thing2 {s : St} {c : Cl} (h : Good s c) {k : Nat} (hk : k < s.m) {a : Int} (ha : a ∈ s.M k ++ [(-1 : Int)]) : a = -1 ∨ ∃ x : Nat, a = x ∧ x < s.n := by
  refine h.row_thing hk ?_
  rcases List.mem_append.1 ha with e | e
  · exact List.mem_cons_of_mem _ e
  · rw [List.mem_singleton.1 e]; simp

theorem push_false {s : St} {k x : Int} (h : isQ s k = false ∨ isT s x = false ∨ inB s x = true) : pushB s k x = false ∧ pushS s k x = s := by
  have e : pushB s k x = false := by
    unfold pushB
    rcases h with h | h | h <;> rw [h] <;> simp
  exact ⟨e, by unfold pushS; rw [e]; rfl⟩
theorem push_any {base p tb eb : Nat} {s : St} {k x : Int} {b : Bool} (w : World) (h : IsQ w base p tb eb s) (hb : pushB s k x = b) :
    Calls Try.prog 12 #[.pointer (some ⟨p, 0, none⟩), .int .i64 k, .int .i64 x] w fun e w' => e = .returned (.bool b) ∧ Kept base p tb eb (pushS s k x) w w' := by
  obtain ⟨c, hc, hg⟩ := h.ex
  have H := Lib.hid hc
  have HI := Lib.hid h
  by_cases hk : 0 ≤ k ∧ k < (s.m : Int)
  · have hq : decide (0 ≤ k ∧ k < (s.m : Int)) = true := decide_eq_true hk
    have HQ := Lib.hid hq
    by_cases hx : 0 ≤ x ∧ x < (s.n : Int)
    · have ht : decide (0 ≤ x ∧ x < (s.n : Int)) = true := decide_eq_true hx
      have HT := Lib.hid ht
      obtain ⟨i, rfl⟩ : ∃ i : Nat, k = i := ⟨k.toNat, by omega⟩
      obtain ⟨j, rfl⟩ : ∃ j : Nat, x = j := ⟨x.toNat, by omega⟩
      have hj : j < s.n := by omega
      have hi : i < s.m := by omega
      have c0 := hc.c0
      have t0 := hc.t0 hj
      rcases hg.where_ j hj with ⟨h1, h2, h3⟩ | ⟨q, hq1, _, h1, h2, h3⟩
      · have eb1 : pushB s i j = true := by unfold pushB isQ isT; rw [hq, ht, h2]; rfl
        have es : pushS s i j = s.put i (s.M i ++ [(j : Int)]) := by unfold pushS; rw [if_pos eb1]; rfl
        rw [eb1] at hb
        subst hb
        have c1 := hc.c1
        have e1 := hc.e1 hi
        have t1 := hc.t1 hj
        have t2 := hc.t2 hj
        have f0 := hc.ties.frozen (j * 3)
        have f1 := hc.ties.frozen (j * 3 + 1)
        have f2 := hc.ties.frozen (j * 3 + 2)
        have HG := Lib.hid (hg.push hi hj h1)
        have HL := Lib.hid (hg.row_thing hi (hg.last hi))
        have HC := Lib.hid (show c.pushed i j = ((c.tie j i (c.E (2 * i + 1)) (-1)).beh i (c.E (2 * i + 1)) j).ahe i (-1) j from rfl)
        rw [h1] at t0
        obtain ⟨l, hl⟩ : ∃ l, c.E (2 * i + 1) = l := ⟨_, rfl⟩
        rw [hl] at HL HC e1
        have HE := Lib.hid es
        clear h hc hg hq ht hk hx h1 h2 h3 eb1 es hl
        go_enter Try.func12, Try.ntmps12
        go_wp2_with fail
        refine (queue_any w H.out HQ.out).mono ?_
        rintro e w1 ⟨rfl, rfl⟩
        go_wp2_with fail
        refine (thing_any w H.out HT.out).mono ?_
        rintro e w1 ⟨rfl, rfl⟩
        go_upto_region 5 with fail
        have H4 := Lib.hid (H.out.tie j i l (-1))
        have T4 := Lib.hid (H.out.tie_turn j i l (-1))
        generalize ((w.setCell ⟨tb, j * 3, none⟩ (.int .i64 i)).setCell ⟨tb, j * 3 + 1, none⟩ (.int .i64 l)).setCell ⟨tb, j * 3 + 2, none⟩ (.int .i64 (-1)) = w4 at H4 T4 ⊢
        clear c0 t0 c1 e1 t1 t2 f0 f1 f2
        go_wp2_with fail
        refine (setb_any w4 H4.out hi HL.out).mono ?_
        rintro e w5 ⟨rfl, h5, t5⟩
        have H5 := Lib.hid h5
        have T5 := Lib.hid (T4.out.trans t5)
        have c1 := h5.c1
        have e1 := h5.e1 hi
        have f1 := h5.ends.frozen (i * 2 + 1)
        clear h5 t5
        generalize (Cl.beh _ i l j).E (2 * i + 1) = z at e1
        go_wp2_with fail
        go_ret
        rw [HE.out]
        refine ⟨rfl, ⟨_, ?_, HG.out⟩, T5.out.setCell (p := ⟨eb, i * 2 + 1, none⟩) (Or.inl (Or.inr (Or.inr rfl))) _⟩
        rw [HC.out]
        unfold Cl.ahe
        rw [if_pos rfl, Nat.mul_comm i 2]
        exact H5.out.putE (2 * i + 1) j
      · obtain ⟨eb1, es⟩ := push_false (s := s) (k := i) (x := j) (Or.inr (Or.inr h2))
        rw [eb1] at hb
        subst hb
        rw [h1] at t0
        have HE := Lib.hid es
        have hne : ((q : Int) != -1) = true := by simp
        clear h hc hg hq ht hk hx h1 h2 h3 eb1 es
        go_enter Try.func12, Try.ntmps12
        go_wp2_with fail
        refine (queue_any w H.out HQ.out).mono ?_
        rintro e w1 ⟨rfl, rfl⟩
        go_wp2_with fail
        refine (thing_any w H.out HT.out).mono ?_
        rintro e w1 ⟨rfl, rfl⟩
        go_wp2_with fail
        go_ret
        rw [HE.out]
        exact ⟨rfl, Kept.refl HI.out⟩
    · have ht : decide (0 ≤ x ∧ x < (s.n : Int)) = false := decide_eq_false hx
      have HT := Lib.hid ht
      obtain ⟨eb1, es⟩ := push_false (s := s) (k := k) (x := x) (Or.inr (Or.inl ht))
      rw [eb1] at hb
      subst hb
      have HE := Lib.hid es
      clear h hc hg hq ht hk hx eb1 es
      go_enter Try.func12, Try.ntmps12
      go_wp2_with fail
      refine (queue_any w H.out HQ.out).mono ?_
      rintro e w1 ⟨rfl, rfl⟩
      go_wp2_with fail
      refine (thing_any w H.out HT.out).mono ?_
      rintro e w1 ⟨rfl, rfl⟩
      go_wp2_with fail
      go_ret
      rw [HE.out]
      exact ⟨rfl, Kept.refl HI.out⟩
  · have hq : decide (0 ≤ k ∧ k < (s.m : Int)) = false := decide_eq_false hk
    have HQ := Lib.hid hq
    obtain ⟨eb1, es⟩ := push_false (s := s) (k := k) (x := x) (Or.inl hq)
    rw [eb1] at hb
    subst hb
    have HE := Lib.hid es
    clear h hc hg hq hk eb1 es
    go_enter Try.func12, Try.ntmps12
    go_wp2_with fail
    refine (queue_any w H.out HQ.out).mono ?_
    rintro e w1 ⟨rfl, rfl⟩
    go_wp2_with fail
    go_ret
    rw [HE.out]
    exact ⟨rfl, Kept.refl HI.out⟩

/-- The tie that was loaded, in a block of its own. -/
def TBox (w : World) (g : Nat) (q a b : Int) : Prop := w.heap[g]? = some (.cells #[.int .i64 q, .int .i64 a, .int .i64 b] 54 (0, 0))
section
variable {w w' : World} {g : Nat} {q a b : Int} {S : Nat → Prop}
theorem TBox.b1 (h : TBox w g q a b) : w.cell? ⟨g, 1, none⟩ = some (.int .i64 a) := by unfold TBox at h; simp [World.cell?, h]
theorem TBox.b2 (h : TBox w g q a b) : w.cell? ⟨g, 2, none⟩ = some (.int .i64 b) := by unfold TBox at h; simp [World.cell?, h]
theorem TBox.turn (h : TBox w g q a b) (t : Turn S w w') (hg : ¬ S g) : TBox w' g q a b := t.heap hg h
end

set_option maxHeartbeats 1000000 in
theorem drop_any {base p tb eb : Nat} {s : St} {x : Int} {b : Bool} (w : World) (h : IsQ w base p tb eb s) (hb : inB s x = b) :
    Calls Try.prog 16 #[.pointer (some ⟨p, 0, none⟩), .int .i64 x] w fun e w' => e = .returned (.bool b) ∧ Kept base p tb eb (dropS s x) w w' := by
  have HI := Lib.hid h
  rcases in_cases s x with ⟨e1, e2, e3, _⟩ | ⟨k, hk, hx, _, e1, e2, e3⟩
  · have E1 := Lib.hid e1
    have E2 := Lib.hid e2
    rw [e1] at hb
    subst hb
    have HE := Lib.hid e3
    clear h e1 e2 e3
    go_enter Try.func16, Try.ntmps16
    go_wp2_with fail
    refine (in_any w HI.out E2.out E1.out).mono ?_
    rintro e w1 ⟨rfl, rfl⟩
    go_wp2_with fail
    go_ret
    rw [HE.out]
    exact ⟨rfl, Kept.refl HI.out⟩
  · obtain ⟨c, hc, hg⟩ := h.ex
    have H := Lib.hid hc
    have hm := hg.mem k hk x hx
    obtain ⟨j, rfl⟩ : ∃ j : Nat, x = j := ⟨x.toNat, by omega⟩
    have hj : j < s.n := by omega
    have E1 := Lib.hid e1
    have E2 := Lib.hid e2
    rw [e1] at hb
    subst hb
    have HE := Lib.hid e3
    have c0 := hc.c0
    have t0 := hc.t0 hj
    have t1 := hc.t1 hj
    have t2 := hc.t2 hj
    obtain ⟨ha, hb2, _, _⟩ := hg.ties hk hx
    have HA := Lib.hid (hg.row_thing hk ha)
    have HB := Lib.hid (hg.row_thing2 hk hb2)
    have HG := Lib.hid (hg.drop hk hx)
    have HC := Lib.hid (show c.dropped k j = (((c.beh k (c.T (3 * j + 1)) (c.T (3 * j + 2))).ahe k (c.T (3 * j + 2)) (c.T (3 * j + 1))).tie j (-1) (-1) (-1)) from rfl)
    generalize c.T (3 * j) = q at t0
    generalize c.T (3 * j + 1) = a at t1 HA HC
    generalize c.T (3 * j + 2) = b at t2 HB HC
    have hlt := hc.lt
    clear h hc hg hm hx e1 e2 e3 ha hb2
    go_enter Try.func16, Try.ntmps16
    go_wp2_with fail
    refine (in_any w HI.out E2.out E1.out).mono ?_
    rintro e w1 ⟨rfl, rfl⟩
    go_upto_region 5 with fail
    have BX := Lib.hid (show TBox (w.alloc (.cells #[.int .i64 q, .int .i64 a, .int .i64 b] 54)) w.heap.size q a b from heap_alloc_new w _)
    have TA := Lib.hid ((Turn.refl (fun _ => False) w).alloc (.cells #[.int .i64 q, .int .i64 a, .int .i64 b] 54))
    have HN := Lib.hid (show ¬ QB p tb eb w.heap.size from fun e => by rcases e with e | e | e <;> omega)
    generalize w.alloc (.cells #[.int .i64 q, .int .i64 a, .int .i64 b] 54) = w1 at BX TA ⊢
    generalize w.heap.size = g at BX HN ⊢
    have H1 := Lib.hid (H.out.new TA.out)
    have b1 := BX.out.b1
    have b2 := BX.out.b2
    clear c0 t0 t1 t2 hlt
    go_wp2_with fail
    refine (setb_any w1 H1.out hk HA.out).mono ?_
    rintro e w2 ⟨rfl, h2, t2⟩
    have H2 := Lib.hid h2
    have B2 := Lib.hid (BX.out.turn t2 HN.out)
    have T2 := Lib.hid ((TA.out.mono (S' := QB p tb eb) (fun _ _ e => False.elim e)).trans t2)
    have b1 := B2.out.b1
    have b2 := B2.out.b2
    clear h2 t2
    go_wp2_with fail
    refine (seta_any w2 H2.out hk HB.out).mono ?_
    rintro e w3 ⟨rfl, h3, t3⟩
    have H3 := Lib.hid h3
    have T3 := Lib.hid (T2.out.trans t3)
    clear h3 t3 b1 b2 H1 H2 B2 BX
    go_wp2_with fail
    refine stand_start (by kernel_rfl) 99 (fun w' => w'.cell? ⟨p, 0, none⟩ = some (.slice (some ⟨tb, 0, none⟩) s.n s.n)) 99 (fun w' => True) H3.out.c0 trivial ?_
    refine stand_take (i := 0) (v := ?_) rfl (by kernel_rfl) (by kernel_rfl) (by kernel_rfl) (by rfl) (fun _ _ _ h => h) (by decide) (by decide) (by rfl) ?_ ?_
    rotate_left
    · (intro w; go_simp; try with_reducible rfl)
    dsimp only [List.set_cons_zero, List.set_cons_succ]
    refine stand_take (i := 1) (v := ?_) rfl (by kernel_rfl) (by kernel_rfl) (by kernel_rfl) (by rfl) (fun _ _ _ h => h) (by decide) (by decide) (by rfl) ?_ ?_
    rotate_left
    · (intro w; go_simp; try with_reducible rfl)
    dsimp only [List.set_cons_zero, List.set_cons_succ]
    refine stand_take (i := 2) (v := ?_) rfl (by kernel_rfl) (by kernel_rfl) (by kernel_rfl) (by rfl) (fun _ _ _ h => h) (by decide) (by decide) (by rfl) ?_ ?_
    rotate_left
    · (intro w; go_simp; try with_reducible rfl)
    dsimp only [List.set_cons_zero, List.set_cons_succ]
    refine stand_load3 (i := 3) (v := ?_) rfl (by kernel_rfl) (by kernel_rfl) (by kernel_rfl) (by rfl) (fun _ _ _ h => h) (by decide) (by decide) (by kernel_rfl) (by rfl) ?_ ?_
    rotate_left
    · (intro w hA; (try dsimp only at hA); go_simp; try with_reducible rfl)
    dsimp only [List.set_cons_zero, List.set_cons_succ]
    refine stand_take (i := 4) (v := ?_) rfl (by kernel_rfl) (by kernel_rfl) (by kernel_rfl) (by rfl) (fun _ _ _ h => h) (by decide) (by decide) (by rfl) ?_ ?_
    rotate_left
    · (intro w; go_simp; try with_reducible rfl)
    dsimp only [List.set_cons_zero, List.set_cons_succ]
    refine stand_step (i := 5) (by kernel_rfl) rfl (fun K hK => ?_)
    go_simp
    refine (loose_any _).mono ?_
    rintro e w4 ⟨rfl, t4⟩
    have T34 := Lib.hid (((Turn.refl (fun _ => False) w3).drewN 1).trans t4)
    have H4 := Lib.hid (H3.out.new T34.out)
    clear t4
    refine hK.out _ _ (fun _ => H4.out.c0) (fun _ => trivial) ?_
    clear hK K
    try simp only [put_laid, List.set_cons_zero, List.set_cons_succ]
    refine stand_take (i := 6) (v := ?_) rfl (by kernel_rfl) (by kernel_rfl) (by kernel_rfl) (by rfl) (fun _ _ _ h => h) (by decide) (by decide) (by rfl) ?_ ?_
    rotate_left
    · (intro w; go_simp; try with_reducible rfl)
    dsimp only [List.set_cons_zero, List.set_cons_succ]
    have y0 := H4.out.t0 hj
    have y1 := H4.out.t1 hj
    have y2 := H4.out.t2 hj
    have f0 := H4.out.ties.frozen (j * 3)
    have f1 := H4.out.ties.frozen (j * 3 + 1)
    have f2 := H4.out.ties.frozen (j * 3 + 2)
    refine stand_step (i := 7) (by kernel_rfl) rfl (fun K hK => ?_)
    go_simp
    have H5 := Lib.hid (H4.out.tie j (-1) (-1) (-1))
    have T5 := Lib.hid (H4.out.tie_turn j (-1) (-1) (-1))
    refine hK.out _ _ (fun _ => H5.out.c0) (fun _ => trivial) ?_
    clear hK K
    try simp only [put_laid, List.set_cons_zero, List.set_cons_succ]
    refine stand_done (by kernel_rfl) ?_
    go_wp2_with fail
    go_ret
    rw [HE.out]
    refine ⟨rfl, ⟨_, ?_, HG.out⟩, (T3.out.trans (T34.out.mono (S' := QB p tb eb) (fun _ _ e => False.elim e))).trans T5.out⟩
    rw [HC.out]
    exact H5.out

theorem pop_any {base p tb eb : Nat} {s : St} {k v : Int} {b : Bool} (w : World) (h : IsQ w base p tb eb s) (hv : firstV s k = v) (hb : firstB s k = b) :
    Calls Try.prog 14 #[.pointer (some ⟨p, 0, none⟩), .int .i64 k] w fun e w' => e = .returned (.tuple #[.int .i64 v, .bool b]) ∧ Kept base p tb eb (popS s k) w w' := by
  have H := Lib.hid h
  have HV := Lib.hid hv
  have HB := Lib.hid hb
  cases b with
  | false =>
    have HE := Lib.hid (show popS s k = s by unfold popS; rw [hb]; rfl)
    clear h hv hb
    go_enter Try.func14, Try.ntmps14
    go_wp2_with fail
    refine (first_any w H.out HV.out HB.out).mono ?_
    rintro e w1 ⟨rfl, rfl⟩
    go_wp2_with fail
    go_ret2
    rw [HE.out]
    exact ⟨rfl, Kept.refl H.out⟩
  | true =>
    have HE := Lib.hid (show popS s k = dropS s v by unfold popS; rw [if_pos hb, hv])
    clear h hv hb
    go_enter Try.func14, Try.ntmps14
    go_wp2_with fail
    refine (first_any w H.out HV.out HB.out).mono ?_
    rintro e w1 ⟨rfl, rfl⟩
    go_wp2_with fail
    refine (drop_any w H.out rfl).mono ?_
    rintro e w2 ⟨rfl, k2⟩
    have K2 := Lib.hid k2
    clear k2
    go_wp2_with fail
    go_ret2
    rw [HE.out]
    exact ⟨rfl, K2.out⟩

end Go.Proofs.Ytgkkmbkialcfiaa
