/- The document's pool in memory; its all, Live, Count. -/
import Derived.Test.YtmjenbkhmhpleaaOnc
import Derived.Test.YtmjenbkhmhpleaaGRest
import Derived.Deep.DeepCutAuto
namespace Go.Proofs.Ytmjenbkhmhpleaa
open Go.RowKit
set_option linter.unusedVariables false

/-- The document's pool: where its rows lie; all of it in blocks of D. -/
structure RS (w : World) (s : St) (ca : Option Addr) (cc : Nat) (ma : Option Addr) (mc : Nat) (D : Nat → Prop) : Prop where
  row : ∀ j, j < s.n → ∃ ad a c, ca = some ad ∧ w.cell? (ad.add j) = some (.slice a (s.M j).length c) ∧ Ints .i64 w a (s.M j) ∧ (∀ x, a = some x → D x.block) ∧ (a = none → c = 0) ∧ (s.M j).length ≤ c
  mid : Ints .i64 w ma (s.M s.n)
  midD : ∀ x, ma = some x → D x.block
  midN : ma = none → mc = 0
  caD : ∀ x, ca = some x → D x.block
  caN : ca = none → cc = 0
section
variable {w w' : World} {s : St} {ca ma : Option Addr} {cc mc : Nat} {D D' S : Nat → Prop}
theorem RS.turn (h : RS w s ca cc ma mc D) (t : Turn S w w') (hs : ∀ i, D i → ¬ S i) : RS w' s ca cc ma mc D := by
  refine ⟨fun j hj => ?_, h.mid.turn t (fun x e => hs _ (h.midD x e)), h.midD, h.midN, h.caD, h.caN⟩
  obtain ⟨ad, a, c, e, h1, h2, h3, h4, h5⟩ := h.row j hj
  exact ⟨ad, a, c, e, t.cell (by rw [block_add]; exact hs _ (h.caD ad e)) h1, h2.turn t (fun x e => hs _ (h3 x e)), h3, h4, h5⟩
theorem RS.new (h : RS w s ca cc ma mc D) (t : Turn (fun _ => False) w w') : RS w' s ca cc ma mc D := h.turn t (fun _ _ => id)
theorem RS.mono (h : RS w s ca cc ma mc D) (hd : ∀ i, D i → D' i) : RS w s ca cc ma mc D' := by
  refine ⟨fun j hj => ?_, h.mid, fun x e => hd _ (h.midD x e), h.midN, fun x e => hd _ (h.caD x e), h.caN⟩
  obtain ⟨ad, a, c, e, h1, h2, h3, h4, h5⟩ := h.row j hj
  exact ⟨ad, a, c, e, h1, h2, fun x e => hd _ (h3 x e), h4, h5⟩
end

def allL (s : St) : List Int := s.M s.n ++ rowsL s.M s.n
theorem allL_count (s : St) (v : Int) : (allL s).count v = s.tot v := by
  unfold allL
  rw [List.count_append, count_rowsL]
  show _ = Go.Proofs.Ytmjenbkhmhpleaa.tot s.M v s.n + (s.M s.n).count v
  omega
theorem allL_length (s : St) : (allL s).length = s.len := by
  unfold allL
  rw [List.length_append, length_rowsL]
  show _ = Go.Proofs.Ytmjenbkhmhpleaa.len s.M s.n + (s.M s.n).length
  omega

structure AllAt (w wr : World) (bx : Nat) (s : St) (ca : Option Addr) (cc : Nat) (ma : Option Addr) (mc : Nat) (D : Nat → Prop) (k : Nat) (bo : Option Addr) (no co : Nat) : Prop where
  own : wr.ownsRow (bx + 1) 3 1 (.slice bo no co) no ((s.M s.n ++ rowsL s.M k).map (Value.int .i64))
  t : Turn (fun _ => False) w wr
  lo : bx < wr.heap.size

theorem far_new {n g : Nat} (h : g < n) : ¬ (Value.slice (some ⟨n, 0, none⟩) 0 0).ownBlock = some g := fun e => by
  have : n = g := Option.some.inj e
  omega
theorem slice_own {w : World} {base n : Nat} {e : TypeId} {v : Value} {xs : List Value} (h : w.ownsRow base e 1 v n xs) : ∃ ao c, v = .slice ao n c := by
  obtain ⟨ao, c, e, _⟩ := own_slice h
  exact ⟨ao, c, e⟩

set_option maxHeartbeats 1000000 in
theorem all_any {s : St} {ca ma : Option Addr} {cc mc : Nat} {D : Nat → Prop} (w : World) (h : RS w s ca cc ma mc D) (hG : Good s) :
    Calls Try.prog 28 #[ragg s.size s.most ca s.n cc ma (s.M s.n).length mc s.fresh] w (Reads .i64 s.len (allL s) w) := by
  have H := Lib.hid h
  have HSUM := Lib.hid (rows_sum hG)
  have hn8 := hG.n
  obtain ⟨nm, hnm⟩ : ∃ nm, (s.M s.n).length = nm := ⟨_, rfl⟩
  have hm64 := hG.row (Nat.le_refl s.n)
  rw [hnm] at hm64 ⊢
  have HNM := Lib.hid hnm
  clear h hG hnm
  unfold ragg
  go_enter Try.func28, Try.ntmps28
  go_wp2_with (at_builtin; refine wpList_append_ints_at Try.underlying23 info_int (by decide) rfl (.tmp 6) (.tmp 8) rfl (w.heap.size + 1) (.slice (some ⟨w.heap.size + 1, 0, none⟩) 0 0) [] 0 rfl (own_empty (new2' w _ _) (Nat.le_refl _)) ma (s.M s.n) nm mc HNM.out rfl H.out.midN (H.out.mid.turn (((Turn.refl (fun _ => False) w).alloc _).alloc _) (fun _ _ => id)) (by omega) (by simp) ?_; intro v3 w3 O3 T3 B3; rw [Nat.zero_add, List.nil_append] at O3; obtain ⟨bo, co, rfl⟩ := slice_own O3.out; have HX := Lib.hid (T3.out.heap (i := w.heap.size) (o := .cells #[.int .i64 s.size, .int .i64 s.most, .slice ca s.n cc, .slice ma nm mc, .int .i64 s.fresh] 25) (far_new (Nat.lt_succ_self _)) (new2 w _ _)); have d2 : w3.cell? ⟨w.heap.size, 2, none⟩ = some (.slice ca s.n cc) := (by simp [World.cell?, HX.out]))
  have T4 := Lib.hid ((((Turn.refl (fun _ => False) w).alloc (.cells #[.int .i64 s.size, .int .i64 s.most, .slice ca s.n cc, .slice ma nm mc, .int .i64 s.fresh] 25)).alloc (.cells #[] 3)).and T3.out (fun i hi e => far_new (Nat.lt_succ_of_lt hi) e))
  have HA : Hid (AllAt w w3 w.heap.size s ca cc ma mc D 0 bo nm co) := Lib.hid ⟨by
    have := O3.out
    show w3.ownsRow (w.heap.size + 1) 3 1 (.slice bo nm co) nm ((s.M s.n ++ []).map (Value.int .i64))
    rw [List.append_nil]; exact this, T4.out, (Array.getElem?_eq_some_iff.1 HX.out).1⟩
  clear O3 T3 B3 T4 HX d2
  go_loopw [3, 13] (fun s3 s13 wr => ∃ (k no co : Nat) (bo : Option Addr), k ≤ s.n ∧ s3 = .slice bo no co ∧ s13 = .int .i64 k ∧ Hid (no = nm + len s.M k) ∧ Hid (AllAt w wr w.heap.size s ca cc ma mc D k bo no co)) (fun _ s13 _ => s.n - (intOf s13).toNat)
  case atStart => exact ⟨0, nm, co, bo, Nat.zero_le _, rfl, rfl, Lib.hid rfl, HA⟩
  case round =>
    clear HA
    obtain ⟨k, no, co, bo, hk, rfl, rfl, HN, HA⟩ := hrel
    have hno : no ≤ 64 := by
      have h1 := HSUM.out k hk
      have h2 := HN.out
      have h3 := HNM.out
      omega
    by_cases hlt : k < s.n
    · obtain ⟨ad, a, c, hca, hcell, hints, hD, hnil, hlc⟩ := (H.out.new HA.out.t).row k hlt
      subst hca
      obtain ⟨nk, hnk⟩ : ∃ nk, (s.M k).length = nk := ⟨_, rfl⟩
      rw [hnk] at hcell
      have HNK := Lib.hid hnk
      have hno2 : no + nk ≤ 64 := by
        have h1 := HSUM.out (k + 1) hlt
        have h2 := HN.out
        have h3 := HNM.out
        have h4 : len s.M (k + 1) = len s.M k + nk := by show len s.M k + (s.M k).length = _; rw [hnk]
        omega
      have HI := Lib.hid hints
      have HNL := Lib.hid hnil
      have HN2 := Lib.hid (show no + nk = nm + len s.M (k + 1) by
        have h2 := HN.out
        have h4 : len s.M (k + 1) = len s.M k + nk := by show len s.M k + (s.M k).length = _; rw [hnk]
        omega)
      clear hnk hints hD hnil hlc
      go_wp2_with (at_builtin; refine wpList_append_ints_at Try.underlying23 info_int (by decide) rfl (.tmp 17) (.tmp 18) rfl (w.heap.size + 1) (.slice bo no co) (s.M s.n ++ rowsL s.M k) no rfl HA.out.own a (s.M k) nk c HNK.out rfl HNL.out HI.out (by omega) (by have := HA.out.lo; omega) ?_; intro v5 w5 O5 T5 B5)
      obtain ⟨b5, c5, rfl⟩ := slice_own O5.out
      go_roundw
      case rel => exact ⟨k + 1, no + nk, c5, b5, by omega, rfl, by go_num, HN2, Lib.hid ⟨by rw [List.append_assoc] at O5; exact O5.out, HA.out.t.and T5.out (fun i hi e => by have := (HA.out.own.lt i e).1; omega), Nat.lt_of_lt_of_le HA.out.lo T5.out.size⟩⟩
      case measure => simp [intOf]; omega
    · have hk2 : k = s.n := by omega
      have HE := Lib.hid (show no = s.len by
        have h2 := HN.out
        rw [hk2, ← HNM.out] at h2
        rw [h2]
        show _ = Go.Proofs.Ytmjenbkhmhpleaa.len s.M s.n + (s.M s.n).length
        omega)
      have HO := Lib.hid (show wr.ownsRow (w.heap.size + 1) 3 1 (.slice bo no co) no ((allL s).map (Value.int .i64)) by
        have := HA.out.own
        rw [hk2] at this
        exact this)
      clear hk2
      go_wp2_with fail
      go_ret
      rw [← HE.out]
      obtain ⟨h1, h2, h3, h4⟩ := own_reads HO.out
      exact ⟨bo, co, rfl, h1, h2, fun ad e => by
        subst e
        have := HO.out.lt ad.block (by rw [own_block]; rfl)
        omega, h3, h4, HA.out.t⟩

theorem rlive_any {s : St} {ca ma : Option Addr} {cc mc : Nat} {D : Nat → Prop} (x : Int) (w : World) (h : RS w s ca cc ma mc D) (hG : Good s) :
    Calls Try.prog 21 #[ragg s.size s.most ca s.n cc ma (s.M s.n).length mc s.fresh, .int .i64 x] w fun e w' => e = .returned (.bool (liveB s x)) ∧ Turn (fun _ => False) w w' := by
  have H := Lib.hid h
  have HG := Lib.hid hG
  have hl := hG.len
  have hf := hG.fresh
  have hs := hG.size
  have HL := Lib.hid (show s.len ≤ 64 by omega)
  clear h hG hl
  obtain ⟨b, hb⟩ : ∃ b, b = liveB s x := ⟨_, rfl⟩
  have HB := Lib.hid hb
  rw [← hb]
  clear hb
  by_cases h0 : x < 0
  · obtain rfl : b = false := by rw [HB.out]; exact decide_eq_false (by omega)
    have h0' : ¬ 0 ≤ x := by omega
    unfold ragg
    go_enter Try.func21, Try.ntmps21
    go_wp2_with fail
    go_ret
    exact ⟨rfl, (Turn.refl _ _).alloc _⟩
  · have h0' : 0 ≤ x := by omega
    by_cases h1 : x < (s.fresh : Int)
    · rcases Nat.eq_zero_or_pos (s.tot x) with h2 | h2
      · obtain rfl : b = true := by rw [HB.out]; exact decide_eq_true ⟨h0', h1, h2⟩
        have H2 := Lib.hid h2
        clear h0 h2
        unfold ragg
        go_enter Try.func21, Try.ntmps21
        go_wp2_with fail
        have TA := Lib.hid ((Turn.refl (fun _ => False) w).alloc (.cells #[.int .i64 s.size, .int .i64 s.most, .slice ca s.n cc, .slice ma (s.M s.n).length mc, .int .i64 s.fresh] 25))
        have hall := all_any _ (H.out.new TA.out) HG.out
        unfold ragg at hall
        refine hall.mono ?_
        rintro e w1 ⟨bo, bc, rfl, l1, i1, _, _, _, t1⟩
        have L1 := Lib.hid l1
        have I1 := Lib.hid i1
        have T1 := Lib.hid (TA.out.trans t1)
        clear hall l1 i1 t1
        go_wp2_with fail
        refine (has_no w1 I1.out L1.out (by have := HL.out; omega) (by rw [allL_count]; exact H2.out)).mono ?_
        rintro e w2 ⟨rfl, rfl⟩
        go_wp2_with fail
        go_ret
        exact ⟨rfl, T1.out⟩
      · obtain rfl : b = false := by rw [HB.out]; exact decide_eq_false (by omega)
        have H2 := Lib.hid h2
        clear h0 h2
        unfold ragg
        go_enter Try.func21, Try.ntmps21
        go_wp2_with fail
        have TA := Lib.hid ((Turn.refl (fun _ => False) w).alloc (.cells #[.int .i64 s.size, .int .i64 s.most, .slice ca s.n cc, .slice ma (s.M s.n).length mc, .int .i64 s.fresh] 25))
        have hall := all_any _ (H.out.new TA.out) HG.out
        unfold ragg at hall
        refine hall.mono ?_
        rintro e w1 ⟨bo, bc, rfl, l1, i1, _, _, _, t1⟩
        have L1 := Lib.hid l1
        have I1 := Lib.hid i1
        have T1 := Lib.hid (TA.out.trans t1)
        clear hall l1 i1 t1
        go_wp2_with fail
        refine (has_yes w1 I1.out L1.out (by have := HL.out; omega) (by rw [allL_count]; exact H2.out)).mono ?_
        rintro e w2 ⟨rfl, rfl⟩
        go_wp2_with fail
        go_ret
        exact ⟨rfl, T1.out⟩
    · obtain rfl : b = false := by rw [HB.out]; exact decide_eq_false (by omega)
      have h1' : decide (x < (s.fresh : Int)) = false := decide_eq_false h1
      have H1 := Lib.hid h1'
      clear h0
      unfold ragg
      go_enter Try.func21, Try.ntmps21
      go_wp2_with fail
      go_ret
      exact ⟨rfl, (Turn.refl _ _).alloc _⟩

theorem rcount_any {s : St} {ca ma : Option Addr} {cc mc : Nat} {D : Nat → Prop} (w : World) (h : RS w s ca cc ma mc D) (hG : Good s) :
    Calls Try.prog 30 #[ragg s.size s.most ca s.n cc ma (s.M s.n).length mc s.fresh] w fun e w' => e = .returned (.int .i64 (cnt s)) ∧ Turn (fun _ => False) w w' := by
  have H := Lib.hid h
  have HG := Lib.hid hG
  have hl := hG.len
  have hf := hG.fresh
  have hs := hG.size
  obtain ⟨nl, hnl⟩ : ∃ nl, s.len = nl := ⟨_, rfl⟩
  have HNL := Lib.hid hnl
  have hnl64 : nl ≤ 64 := by omega
  have HC := Lib.hid (show (s.fresh : Int) - (nl : Int) = cnt s by unfold cnt; rw [hnl])
  have HW := Lib.hid (show IntKind.i64.wrap ((s.fresh : Int) - (nl : Int)) = (s.fresh : Int) - (nl : Int) from IntWalk.i64_in _ (by omega))
  clear h hG hl hnl
  unfold ragg
  go_enter Try.func30, Try.ntmps30
  go_wp2_with fail
  have TA := Lib.hid ((Turn.refl (fun _ => False) w).alloc (.cells #[.int .i64 s.size, .int .i64 s.most, .slice ca s.n cc, .slice ma (s.M s.n).length mc, .int .i64 s.fresh] 25))
  have BX := Lib.hid (show RBox (w.alloc (.cells #[.int .i64 s.size, .int .i64 s.most, .slice ca s.n cc, .slice ma (s.M s.n).length mc, .int .i64 s.fresh] 25)) w.heap.size s.size s.most ca s.n cc ma (s.M s.n).length mc s.fresh from heap_alloc_new w _)
  generalize w.alloc (.cells #[.int .i64 s.size, .int .i64 s.most, .slice ca s.n cc, .slice ma (s.M s.n).length mc, .int .i64 s.fresh] 25) = w1 at TA BX ⊢
  generalize w.heap.size = bx at BX ⊢
  refine stand_start (by kernel_rfl) 99 (fun w' => w'.cell? ⟨bx, 0, none⟩ = some (.int .i64 s.size) ∧ w'.cell? ⟨bx, 1, none⟩ = some (.int .i64 s.most) ∧ w'.cell? ⟨bx, 2, none⟩ = some (.slice ca s.n cc) ∧ w'.cell? ⟨bx, 3, none⟩ = some (.slice ma (s.M s.n).length mc) ∧ w'.cell? ⟨bx, 4, none⟩ = some (.int .i64 s.fresh)) 99 (fun w' => True) ⟨BX.out.d0, BX.out.d1, BX.out.d2, BX.out.d3, BX.out.d4⟩ trivial ?_
  refine stand_take (i := 0) (v := ?_) rfl (by kernel_rfl) (by kernel_rfl) (by kernel_rfl) (by rfl) (fun _ _ _ h => h) (by decide) (by decide) (by rfl) ?_ ?_
  rotate_left
  · (intro w; go_simp; try with_reducible rfl)
  dsimp only [List.set_cons_zero, List.set_cons_succ]
  refine stand_load3 (i := 1) (v := ?_) rfl (by kernel_rfl) (by kernel_rfl) (by kernel_rfl) (by rfl) (fun _ _ _ h => h) (by decide) (by decide) (by kernel_rfl) (by rfl) ?_ ?_
  rotate_left
  · (intro w hA; (try dsimp only at hA); go_simp; try with_reducible rfl)
  dsimp only [List.set_cons_zero, List.set_cons_succ]
  refine stand_load3 (i := 2) (v := ?_) rfl (by kernel_rfl) (by kernel_rfl) (by kernel_rfl) (by rfl) (fun _ _ _ h => h) (by decide) (by decide) (by kernel_rfl) (by rfl) ?_ ?_
  rotate_left
  · (intro w hA; (try dsimp only at hA); go_simp; try with_reducible rfl)
  dsimp only [List.set_cons_zero, List.set_cons_succ]
  refine stand_step (i := 3) (by kernel_rfl) rfl (fun K hK => ?_)
  go_simp
  have hall := all_any _ (H.out.new (TA.out.drewN 1)) HG.out
  unfold ragg at hall
  refine hall.mono ?_
  rintro e w2 ⟨bo, bc, rfl, l1, i1, _, _, _, t1⟩
  have T1 := Lib.hid t1
  have B2 := Lib.hid (BX.out.turn ((Turn.refl (fun _ => False) w1).drew.trans t1) id)
  clear hall l1 i1 t1
  refine hK.out _ _ (fun _ => ⟨B2.out.d0, B2.out.d1, B2.out.d2, B2.out.d3, B2.out.d4⟩) (fun _ => trivial) ?_
  clear hK K
  try simp only [put_laid, List.set_cons_zero, List.set_cons_succ]
  rw [HNL.out]
  have hw := HW.out
  refine stand_take (i := 4) (v := ?_) rfl (by kernel_rfl) (by kernel_rfl) (by kernel_rfl) (by rfl) (fun _ _ _ h => h) (by decide) (by decide) (by rfl) ?_ ?_
  rotate_left
  · (intro w; go_simp; try with_reducible rfl)
  dsimp only [List.set_cons_zero, List.set_cons_succ]
  refine stand_take (i := 5) (v := ?_) rfl (by kernel_rfl) (by kernel_rfl) (by kernel_rfl) (by rfl) (fun _ _ _ h => h) (by decide) (by decide) (by rfl) ?_ ?_
  rotate_left
  · (intro w; go_simp; try with_reducible rfl)
  dsimp only [List.set_cons_zero, List.set_cons_succ]
  refine stand_take (i := 6) (v := ?_) rfl (by kernel_rfl) (by kernel_rfl) (by kernel_rfl) (by rfl) (fun _ _ _ h => h) (by decide) (by decide) (by rfl) ?_ ?_
  rotate_left
  · (intro w; go_simp; try with_reducible rfl)
  dsimp only [List.set_cons_zero, List.set_cons_succ]
  clear hw
  refine stand_done (by kernel_rfl) ?_
  go_wp2_with fail
  go_ret
  exact ⟨ret_int HC.out, (TA.out.drewN 1).trans T1.out⟩

end Go.Proofs.Ytmjenbkhmhpleaa
